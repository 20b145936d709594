import PyProof.Rows.All
import Wide.All
import OpenK.AllK
import Wide.FinOn
import HandS.ForMost
import HandS.ForExc
import HandS.Wide
import HandS.IsInst
import HandS.Gcd
import HandS.Zip
import HandS.TupAny
import HandS.TupLe
import HandS.Defaults
import HandS.Small
import PyProof.ReprLen
import PySem.Challenge.RW_pegwishes_k01_fractions_reckoned
set_option Elab.async false
set_option linter.all false
set_option maxRecDepth 100000
set_option maxHeartbeats 8000000
namespace Pw
open PySem L2

/-! ## data that stands in the heap, some objects set apart -/
abbrev Fg := PySem.W.Frag
mutual
inductive At (K : Fg) (H : Hp) : V → PyData → Prop
  | non : At K H .non .none
  | bl (b : Bool) : At K H (.bl b) (.bool b)
  | int (i : Int) : At K H (.int i) (.int i)
  | str (x : Str) : At K H (.str x) (.str x)
  | lst {a : Addr} {xs : List V} {ds : List PyData} : H a = some (.lst xs) → AtAll K H xs ds → At K H (.ref a) (.list ds)
  | tup {a : Addr} {xs : List V} {ds : List PyData} : SqT K H a xs → AtAll K H xs ds → At K H (.ref a) (.tuple ds)
inductive AtAll (K : Fg) (H : Hp) : List V → List PyData → Prop
  | nil : AtAll K H [] []
  | cons {v : V} {vs : List V} {d : PyData} {ds : List PyData} : At K H v d → AtAll K H vs ds → AtAll K H (v :: vs) (d :: ds)
end
theorem same_t {K : Fg} {H H' : Hp} {a : Addr} {xs : List V} (e : Same H H') (h : SqT K H a xs) : SqT K H' a xs := by
  rcases h with (h | ⟨o, h⟩) | h
  · exact .inl (.inl (e _ _ h))
  · exact .inl (.inr ⟨o, e _ _ h⟩)
  · exact .inr h
mutual
theorem At.mono {K : Fg} {H H' : Hp} (e : Same H H') : ∀ (d : PyData) (v : V), At K H v d → At K H' v d
  | .none, _, .non => .non
  | .bool _, _, .bl _ => .bl _
  | .int _, _, .int _ => .int _
  | .str _, _, .str _ => .str _
  | .list ds, _, .lst h a => .lst (e _ _ h) (AtAll.mono e ds _ a)
  | .tuple ds, _, .tup h a => .tup (same_t e h) (AtAll.mono e ds _ a)
theorem AtAll.mono {K : Fg} {H H' : Hp} (e : Same H H') : ∀ (ds : List PyData) (vs : List V), AtAll K H vs ds → AtAll K H' vs ds
  | [], _, .nil => .nil
  | d :: ds, _, .cons h t => .cons (At.mono e d _ h) (AtAll.mono e ds _ t)
end
mutual
theorem At.dp {K : Fg} {H : Hp} : ∀ (d : PyData) (v : V), At K H v d → Dp K H v d
  | .none, _, .non => .non
  | .bool _, _, .bl _ => .bl _
  | .int _, _, .int _ => .int _
  | .str _, _, .str _ => .str _
  | .list ds, _, .lst h a => .lst (SqL.of h) (AtAll.dp ds _ a)
  | .tuple ds, _, .tup h a => .tup h (AtAll.dp ds _ a)
theorem AtAll.dp {K : Fg} {H : Hp} : ∀ (ds : List PyData) (vs : List V), AtAll K H vs ds → DpAll K H vs ds
  | [], _, .nil => .nil
  | d :: ds, _, .cons h t => .cons (At.dp d _ h) (AtAll.dp ds _ t)
end
theorem AtAll.len {K : Fg} {H : Hp} : ∀ {vs : List V} {ds : List PyData}, AtAll K H vs ds → vs.length = ds.length
  | _, _, .nil => rfl
  | _, _, .cons _ t => congrArg Nat.succ (AtAll.len t)
theorem AtAll.get {K : Fg} {H : Hp} : ∀ {vs : List V} {ds : List PyData} {i : Nat} {d : PyData}, AtAll K H vs ds → ds[i]? = some d → ∃ v, vs[i]? = some v ∧ At K H v d
  | _, _, 0, _, .cons h _, e => ⟨_, rfl, Option.some.inj e ▸ h⟩
  | _, _, i + 1, _, .cons _ t, e => AtAll.get (i := i) t e
theorem AtAll.append {K : Fg} {H : Hp} : ∀ {vs ws : List V} {ds es : List PyData}, AtAll K H vs ds → AtAll K H ws es → AtAll K H (vs ++ ws) (ds ++ es)
  | _, _, _, _, .nil, s => s
  | _, _, _, _, .cons h t, s => .cons h (AtAll.append t s)
theorem AtAll.set {K : Fg} {H : Hp} {v : V} {d : PyData} (h : At K H v d) : ∀ {vs : List V} {ds : List PyData} (i : Nat), AtAll K H vs ds → AtAll K H (vs.set i v) (ds.set i d)
  | _, _, _, .nil => .nil
  | _, _, 0, .cons _ t => .cons h t
  | _, _, i + 1, .cons g t => .cons g (AtAll.set h i t)
theorem AtAll.drop {K : Fg} {H : Hp} : ∀ {vs : List V} {ds : List PyData} (n : Nat), AtAll K H vs ds → AtAll K H (vs.drop n) (ds.drop n)
  | _, _, 0, r => r
  | _, _, _ + 1, .nil => .nil
  | _, _, n + 1, .cons _ t => AtAll.drop n t
theorem AtAll.take {K : Fg} {H : Hp} : ∀ {vs : List V} {ds : List PyData} (n : Nat), AtAll K H vs ds → AtAll K H (vs.take n) (ds.take n)
  | _, _, 0, _ => .nil
  | _, _, _ + 1, .nil => .nil
  | _, _, n + 1, .cons r t => .cons r (AtAll.take n t)
theorem AtAll.ints {K : Fg} {H : Hp} : ∀ {vs : List V} {ns : List Int}, AtAll K H vs (ns.map PyData.int) → vs = ns.map V.int
  | _, [], .nil => rfl
  | _, n :: ns, .cons (.int _) t => congrArg (V.int n :: ·) (AtAll.ints t)
theorem AtAll.bls {K : Fg} {H : Hp} : ∀ {vs : List V} {ns : List Bool}, AtAll K H vs (ns.map PyData.bool) → vs = ns.map V.bl
  | _, [], .nil => rfl
  | _, n :: ns, .cons (.bl _) t => congrArg (V.bl n :: ·) (AtAll.bls t)

def hid (M : List Addr) (H : Hp) : Hp := fun a => if a ∈ M then none else H a
theorem hid_in {M : List Addr} {H : Hp} {a : Addr} (h : a ∈ M) : hid M H a = none := if_pos h
theorem hid_out {M : List Addr} {H : Hp} {a : Addr} (h : a ∉ M) : hid M H a = H a := if_neg h
theorem hid_some {M : List Addr} {H : Hp} {a : Addr} {o : HO} (h : hid M H a = some o) : a ∉ M ∧ H a = some o := by
  by_cases c : a ∈ M
  · rw [hid_in c] at h; cases h
  · rw [hid_out c] at h; exact ⟨c, h⟩
theorem hid_same {M : List Addr} {H : Hp} : Same (hid M H) H := fun _ _ h => (hid_some h).2
theorem hid_upd {M : List Addr} {H : Hp} {p : Addr} {o : HO} (h : p ∈ M) : hid M (upd H p o) = hid M H := by
  funext a
  by_cases c : a ∈ M
  · rw [hid_in c, hid_in c]
  · rw [hid_out c, hid_out c, upd_ne (fun e => c (by rw [e]; exact h))]
theorem hid_sub {M N : List Addr} {H : Hp} (h : ∀ a, a ∈ M → a ∈ N) : Same (hid N H) (hid M H) := fun a o e => by
  obtain ⟨c, e⟩ := hid_some e
  rw [hid_out (fun m => c (h a m))]
  exact e
theorem hid_new {M : List Addr} {H : Hp} {p : Addr} {o : HO} (hp : H p = none) : Same (hid M H) (hid M (upd H p o)) := fun a u e => by
  obtain ⟨c, e⟩ := hid_some e
  rw [hid_out c, upd_ne (ne_of_none e hp)]
  exact e
theorem same_hid {M : List Addr} {H H' : Hp} (h : Same H H') : Same (hid M H) (hid M H') := fun a o e => by
  obtain ⟨c, e⟩ := hid_some e
  rw [hid_out c]
  exact h _ _ e

/-- a value of the logic: data, a list of the store (by its number), the script -/
inductive Dx where
  | d (d : PyData) | loc (k : Nat) | scr (ns : List Int)
def RX (K : Fg) (M : List Addr) (H : Hp) (v : V) : Dx → Prop
  | .d d => At K (hid M H) v d
  | .loc k => ∃ p, M[k]? = some p ∧ v = .ref p
  | .scr ns => ∃ a, v = .ref a ∧ SqL K (hid M H) a (ns.map V.int)
theorem RX.mono {K : Fg} {M : List Addr} {H H' : Hp} {v : V} (e : Same (hid M H) (hid M H')) : ∀ {x : Dx}, RX K M H v x → RX K M H' v x
  | .d d, h => At.mono e d v h
  | .loc _, h => h
  | .scr _, ⟨a, h1, h2⟩ => ⟨a, h1, e.seq h2⟩
abbrev Sto := List (List PyData)
abbrev En := List (Option Dx)
structure So (K : Fg) (M : List Addr) (s : Sto) (H : Hp) : Prop where
  nd : M.Nodup
  len : s.length = M.length
  at_ : ∀ (k : Nat) (p : Addr) (ds : List PyData), M[k]? = some p → s[k]? = some ds → ∃ vs, H p = some (.lst vs) ∧ AtAll K (hid M H) vs ds
theorem So.get {K : Fg} {M : List Addr} {s : Sto} {H : Hp} (h : So K M s H) {k : Nat} {ds : List PyData} (e : s[k]? = some ds) : ∃ p vs, M[k]? = some p ∧ H p = some (.lst vs) ∧ AtAll K (hid M H) vs ds := by
  have hk : k < M.length := by
    rw [← h.len]
    exact (List.getElem?_eq_some_iff.mp e).1
  obtain ⟨vs, h1, h2⟩ := h.at_ k M[k] ds (List.getElem?_eq_getElem hk) e
  exact ⟨M[k], vs, List.getElem?_eq_getElem hk, h1, h2⟩
theorem So.in_ {K : Fg} {M : List Addr} {s : Sto} {H : Hp} (h : So K M s H) {p : Addr} (e : p ∈ M) : ∃ vs, H p = some (.lst vs) := by
  obtain ⟨k, hk, rfl⟩ := List.getElem_of_mem e
  have hs : k < s.length := by rw [h.len]; exact hk
  obtain ⟨vs, h1, _⟩ := h.at_ k _ s[k] (List.getElem?_eq_getElem hk) (List.getElem?_eq_getElem hs)
  exact ⟨vs, h1⟩
theorem So.free {K : Fg} {M : List Addr} {s : Sto} {H : Hp} (h : So K M s H) {p : Addr} (e : H p = none) : p ∉ M := fun m => by
  obtain ⟨vs, q⟩ := h.in_ m
  rw [e] at q
  cases q
/-- a new object beside the store -/
theorem So.new {K : Fg} {M : List Addr} {s : Sto} {H : Hp} {p : Addr} {o : HO} (h : So K M s H) (hp : H p = none) : So K M s (upd H p o) :=
  ⟨h.nd, h.len, fun k q ds e1 e2 => by
    obtain ⟨vs, h1, h2⟩ := h.at_ k q ds e1 e2
    exact ⟨vs, by rw [upd_ne (ne_of_none h1 hp)]; exact h1, AtAll.mono (hid_new hp) ds vs h2⟩⟩
/-- a list of the store is written -/
theorem So.put {K : Fg} {M : List Addr} {s : Sto} {H : Hp} {k : Nat} {p : Addr} {ws : List V} {es : List PyData} (h : So K M s H) (hp : M[k]? = some p) (a : AtAll K (hid M H) ws es) : So K M (s.set k es) (upd H p (.lst ws)) := by
  have hm : p ∈ M := List.mem_of_getElem? hp
  refine ⟨h.nd, by rw [List.length_set]; exact h.len, fun j q ds e1 e2 => ?_⟩
  rw [hid_upd hm]
  by_cases c : j = k
  · subst c
    rw [hp] at e1; cases e1
    have hk : j < s.length := by
      have := (List.getElem?_eq_some_iff.mp hp).1
      rw [h.len]; exact this
    rw [List.getElem?_set_self hk] at e2
    cases e2
    exact ⟨ws, upd_same, a⟩
  · rw [List.getElem?_set_ne (Ne.symm c)] at e2
    obtain ⟨vs, h1, h2⟩ := h.at_ j q ds e1 e2
    have ne : q ≠ p := fun e => by
      subst e
      exact c (nd_ix h.nd e1 hp)
    exact ⟨vs, by rw [upd_ne ne]; exact h1, h2⟩
/-- a new list joins the store -/
theorem So.add {K : Fg} {M : List Addr} {s : Sto} {H : Hp} {p : Addr} {ws : List V} {es : List PyData} (h : So K M s H) (hp : H p = none) (a : AtAll K (hid M H) ws es) : So K (M ++ [p]) (s ++ [es]) (upd H p (.lst ws)) := by
  have hm := h.free hp
  have e0 : Same (hid M H) (hid (M ++ [p]) (upd H p (.lst ws))) := fun b o e => by
    obtain ⟨c, e⟩ := hid_some e
    have nb := ne_of_none e hp
    rw [hid_out (by simp [c, nb]), upd_ne nb]
    exact e
  refine ⟨?_, by simp [h.len], fun j q ds e1 e2 => ?_⟩
  · rw [List.nodup_append]
    exact ⟨h.nd, by simp, fun x hx y hy => by simp at hy; subst hy; exact fun e => hm (e ▸ hx)⟩
  · by_cases c : j < M.length
    · rw [List.getElem?_append_left c] at e1
      rw [List.getElem?_append_left (by rw [h.len]; exact c)] at e2
      obtain ⟨vs, h1, h2⟩ := h.at_ j q ds e1 e2
      exact ⟨vs, by rw [upd_ne (ne_of_none h1 hp)]; exact h1, AtAll.mono e0 ds vs h2⟩
    · have cj : j = M.length := by
        have := (List.getElem?_eq_some_iff.mp e1).1
        simp at this
        omega
      subst cj
      rw [List.getElem?_append_right (Nat.le_refl _), Nat.sub_self] at e1
      rw [List.getElem?_append_right (by rw [h.len]; exact Nat.le_refl _), h.len, Nat.sub_self] at e2
      cases e1; cases e2
      exact ⟨ws, upd_same, AtAll.mono e0 _ _ a⟩
/-- the last lists of the store are let go -/
theorem So.cut {K : Fg} {M N : List Addr} {s t : Sto} {H : Hp} (h : So K (M ++ N) (s ++ t) H) (hl : s.length = M.length) : So K M s H := by
  refine ⟨(List.nodup_append.mp h.nd).1, hl, fun j q ds e1 e2 => ?_⟩
  have hj := (List.getElem?_eq_some_iff.mp e1).1
  obtain ⟨vs, h1, h2⟩ := h.at_ j q ds (by rw [List.getElem?_append_left hj]; exact e1) (by rw [List.getElem?_append_left (by rw [hl]; exact hj)]; exact e2)
  exact ⟨vs, h1, AtAll.mono (hid_sub fun a m => List.mem_append_left _ m) ds vs h2⟩

structure RE (K : Fg) (M : List Addr) (H : Hp) (σ : L2.St) (ρ : En) : Prop where
  len : σ.length = ρ.length
  at_ : ∀ (i : Nat) (x : Dx), ρ[i]? = some (some x) → ∃ v, σ[i]? = some (some v) ∧ RX K M H v x
theorem RE.mono {K : Fg} {M : List Addr} {H H' : Hp} {σ : L2.St} {ρ : En} (e : Same (hid M H) (hid M H')) (h : RE K M H σ ρ) : RE K M H' σ ρ :=
  ⟨h.len, fun i x hx => let ⟨v, h1, h2⟩ := h.at_ i x hx; ⟨v, h1, h2.mono e⟩⟩
theorem RE.set {K : Fg} {M : List Addr} {H : Hp} {σ : L2.St} {ρ : En} {i : Nat} {v : V} {x : Dx} (h : RE K M H σ ρ) (r : RX K M H v x) : RE K M H (σ.set i (some v)) (ρ.set i (some x)) := by
  refine ⟨by simpa using h.len, fun j y hy => ?_⟩
  by_cases c : j = i
  · subst c
    by_cases hj : j < ρ.length
    · rw [List.getElem?_set_self hj] at hy
      cases hy
      exact ⟨v, List.getElem?_set_self (by rw [h.len]; exact hj), r⟩
    · rw [List.getElem?_eq_none (by simpa using hj)] at hy
      cases hy
  · rw [List.getElem?_set_ne (Ne.symm c)] at hy
    obtain ⟨w, h1, h2⟩ := h.at_ j y hy
    exact ⟨w, by rw [List.getElem?_set_ne (Ne.symm c)]; exact h1, h2⟩

/-! ## what an expression gives -/
def Okk (K : Fg) (M : List Addr) (s' : Sto) (x : Dx) (H : Hp) (Q : VK) : Prop := ∀ v H', Same (hid M H) (hid M H') → So K M s' H' → RX K M H' v x → Q v H'
def Ev (K : Fg) (te : TE) (ρ : En) (s : Sto) (x : Dx) (s' : Sto) : Prop := ∀ M σ H, So K M s H → RE K M H σ ρ → ∀ Q : VK, Okk K M s' x H Q → te σ H Q
/-- a new list: it stands behind the store -/
def EvN (K : Fg) (te : TE) (ρ : En) (s : Sto) (ds : List PyData) (s' : Sto) : Prop := ∀ M σ H, So K M s H → RE K M H σ ρ → ∀ Q : VK,
  (∀ p H', H p = none → Same (hid M H) (hid M H') → So K (M ++ [p]) (s' ++ [ds]) H' → So K M s' H' → Q (.ref p) H') → te σ H Q
inductive RXs (K : Fg) (M : List Addr) (H : Hp) : List V → List Dx → Prop
  | nil : RXs K M H [] []
  | cons {v vs x xs} : RX K M H v x → RXs K M H vs xs → RXs K M H (v :: vs) (x :: xs)
theorem RXs.mono {K : Fg} {M : List Addr} {H H' : Hp} (e : Same (hid M H) (hid M H')) : ∀ {vs : List V} {xs : List Dx}, RXs K M H vs xs → RXs K M H' vs xs
  | _, _, .nil => .nil
  | _, _, .cons h t => .cons (h.mono e) (t.mono e)
def Eva (K : Fg) (ta : TA) (ρ : En) (s : Sto) (xs : List Dx) (s' : Sto) : Prop := ∀ M σ H, So K M s H → RE K M H σ ρ → ∀ Q : List V → Hp → Prop,
  (∀ vs H', Same (hid M H) (hid M H') → So K M s' H' → RXs K M H' vs xs → Q vs H') → ta σ H Q
def EvT (K : Fg) (tt : TT) (ρ : En) (s : Sto) (b : Bool) (s' : Sto) : Prop := ∀ M σ H, So K M s H → RE K M H σ ρ → ∀ Q : Bool → Hp → Prop,
  (∀ H', Same (hid M H) (hid M H') → So K M s' H' → Q b H') → tt σ H Q
def Op2 (K : Fg) (r : R2) (x y : Dx) (s : Sto) (z : Dx) (s' : Sto) : Prop := ∀ M H v w, So K M s H → RX K M H v x → RX K M H w y → ∀ Q : VK, Okk K M s' z H Q → r v w H Q
/-- .. with a new list -/
def Op2N (K : Fg) (r : R2) (x y : Dx) (s : Sto) (ds : List PyData) (s' : Sto) : Prop := ∀ M H v w, So K M s H → RX K M H v x → RX K M H w y → ∀ Q : VK,
  (∀ p H', H p = none → Same (hid M H) (hid M H') → So K (M ++ [p]) (s' ++ [ds]) H' → So K M s' H' → Q (.ref p) H') → r v w H Q
def Op1 (K : Fg) (r : V → Hp → VK → Prop) (x : Dx) (s : Sto) (z : Dx) (s' : Sto) : Prop := ∀ M H v, So K M s H → RX K M H v x → ∀ Q : VK, Okk K M s' z H Q → r v H Q
/-- a call of a built-in, by values -/
def OpC (K : Fg) (r : List V → Hp → VK → Prop) (xs : List Dx) (s : Sto) (z : Dx) (s' : Sto) : Prop := ∀ M H vs, So K M s H → RXs K M H vs xs → ∀ Q : VK, Okk K M s' z H Q → r vs H Q

section
variable {K : Fg} {ρ : En} {s s1 s2 s3 : Sto} {x y z : Dx} {xs : List Dx} {ta tb te : TE} {tas : TA} {t u : TT} {r : R2} {b c : Bool} {i j k : Int}
theorem Okk.here {M : List Addr} {H : Hp} {Q : VK} {v : V} (q : Okk K M s x H Q) (S : So K M s H) (h : RX K M H v x) : Q v H := q v H (Same.refl _) S h
theorem Okk.step {M : List Addr} {H H1 : Hp} {Q : VK} (q : Okk K M s x H Q) (e : Same (hid M H) (hid M H1)) : Okk K M s x H1 Q := fun v H2 e2 => q v H2 (e.trans e2)
theorem ev_var {n : Nat} (h : ρ[n]? = some (some x)) : Ev K (tVar n) ρ s x s := fun M σ H S R Q q => by
  obtain ⟨v, h1, h2⟩ := R.at_ n x h
  exact ⟨v, h1, q.here S h2⟩
theorem ev_int : Ev K (tC (.int i)) ρ s (.d (.int i)) s := fun M σ H S R Q q => q.here S (.int i)
theorem ev_bl : Ev K (tC (.bl b)) ρ s (.d (.bool b)) s := fun M σ H S R Q q => q.here S (.bl b)
theorem ev_non : Ev K (tC .non) ρ s (.d .none) s := fun M σ H S R Q q => q.here S .non
theorem ev_str {w : Str} : Ev K (tC (.str w)) ρ s (.d (.str w)) s := fun M σ H S R Q q => q.here S (.str w)
theorem ev_k {v : V} {d : PyData} (h : ∀ H, At K H v d) : Ev K (tC v) ρ s (.d d) s := fun M σ H S R Q q => q.here S (h _)
theorem ev_op (ha : Ev K ta ρ s x s1) (hb : Ev K tb ρ s1 y s2) (hr : Op2 K r x y s2 z s3) : Ev K (tOp r ta tb) ρ s z s3 := fun M σ H S R Q q =>
  ha M σ H S R _ fun v H1 e1 S1 r1 => hb M σ H1 S1 (R.mono e1) _ fun w H2 e2 S2 r2 => hr M H2 v w S2 (r1.mono e2) r2 Q (q.step (e1.trans e2))
theorem evn_op {ds : List PyData} (ha : Ev K ta ρ s x s1) (hb : Ev K tb ρ s1 y s2) (hr : Op2N K r x y s2 ds s3) : EvN K (tOp r ta tb) ρ s ds s3 := fun M σ H S R Q q =>
  ha M σ H S R _ fun v H1 e1 S1 r1 => hb M σ H1 S1 (R.mono e1) _ fun w H2 e2 S2 r2 => hr M H2 v w S2 (r1.mono e2) r2 Q fun p H3 hp e3 S3 =>
    have e := e1.trans e2
    q p H3 (by
      cases hq : H p with
      | none => rfl
      | some o =>
        by_cases c : p ∈ M
        · exact absurd c (S2.free hp)
        · have := hid_some (e p o (by rw [hid_out c]; exact hq))
          rw [hp] at this; cases this.2) (e.trans e3) S3
theorem ev_un {r : V → Hp → VK → Prop} (ha : Ev K ta ρ s x s1) (hr : Op1 K r x s1 z s2) : Ev K (tUn r ta) ρ s z s2 := fun M σ H S R Q q =>
  ha M σ H S R _ fun v H1 e1 S1 r1 => hr M H1 v S1 r1 Q (q.step e1)
theorem ev_cb {r : List V → Hp → VK → Prop} (ha : Eva K tas ρ s xs s1) (hr : OpC K r xs s1 z s2) : Ev K (tCB r tas) ρ s z s2 := fun M σ H S R Q q =>
  ha M σ H S R _ fun v H1 e1 S1 r1 => hr M H1 v S1 r1 Q (q.step e1)
theorem eva_nil : Eva K tNil ρ s [] s := fun M σ H S R Q q => q [] H (Same.refl _) S .nil
theorem eva_cons (ha : Ev K ta ρ s x s1) (hr : Eva K tas ρ s1 xs s2) : Eva K (tCons ta tas) ρ s (x :: xs) s2 := fun M σ H S R Q q =>
  ha M σ H S R _ fun v H1 e1 S1 r1 => hr M σ H1 S1 (R.mono e1) _ fun vs H2 e2 S2 r2 => q _ H2 (e1.trans e2) S2 (.cons (r1.mono e2) r2)
theorem Ev.to {x' : Dx} {s' : Sto} (h : Ev K ta ρ s x s1) (e : x = x') (e2 : s1 = s') : Ev K ta ρ s x' s' := e ▸ e2 ▸ h
theorem Ev.is {x' : Dx} (h : Ev K ta ρ s x s1) (e : x = x') : Ev K ta ρ s x' s1 := e ▸ h
/-- the data of values -/
theorem rxs_data {M : List Addr} {H : Hp} : ∀ {vs : List V} {ds : List PyData}, RXs K M H vs (ds.map Dx.d) → AtAll K (hid M H) vs ds
  | _, [], .nil => .nil
  | _, _ :: _, .cons h t => .cons h (rxs_data t)
theorem so_drop {M : List Addr} {H : Hp} {p : Addr} {ds : List PyData} (S : So K (M ++ [p]) (s ++ [ds]) H) (hl : s.length = M.length) : At K (hid M H) (.ref p) (.list ds) := by
  obtain ⟨vs, h1, h2⟩ := S.at_ M.length p ds (by simp) (by rw [List.getElem?_append_right (by omega)]; simp [hl])
  have hp : p ∉ M := fun m => (List.nodup_append.mp S.nd).2.2 p m p (by simp) rfl
  exact .lst (by rw [hid_out hp]; exact h1) (AtAll.mono (hid_sub fun a m => List.mem_append_left _ m) ds vs h2)
theorem ev_new {ds : List PyData} (h : EvN K te ρ s ds s1) : Ev K te ρ s (.d (.list ds)) s1 := fun M σ H S R Q q =>
  h M σ H S R _ fun p H1 hp e S1 S2 => q _ H1 e S2 (so_drop S1 S2.len)
theorem ev_tup {ds : List PyData} (h : Eva K tas ρ s (ds.map Dx.d) s1) (hl : ds.length ≤ 100000) : Ev K (tTup tas) ρ s (.d (.tuple ds)) s1 := fun M σ H S R Q q =>
  h M σ H S R _ fun vs H1 e1 S1 r1 => by
    have a := rxs_data r1
    refine ⟨by rw [a.len]; exact Nat.le_trans hl (by decide), fun p hp => ?_⟩
    refine q _ _ (e1.trans (hid_new hp)) (S1.new hp) (At.tup (SqT.of ?_) (AtAll.mono (hid_new hp) _ _ a))
    rw [hid_out (S1.free hp)]
    exact upd_same
theorem evn_lst {ds : List PyData} (h : Eva K tas ρ s (ds.map Dx.d) s1) (hl : ds.length ≤ 100000) : EvN K (tLst tas) ρ s ds s1 := fun M σ H S R Q q =>
  h M σ H S R _ fun vs H1 e1 S1 r1 => by
    have a := rxs_data r1
    refine ⟨by rw [a.len]; exact Nat.le_trans hl (by decide), fun p hp => ?_⟩
    refine q p _ ?_ (e1.trans (hid_new hp)) (S1.add hp a) (S1.new hp)
    cases hq : H p with
    | none => rfl
    | some o =>
      have := hid_some (e1 p o (by rw [hid_out (S1.free hp)]; exact hq))
      rw [hp] at this
      cases this.2
theorem et_test (h : Ev K te ρ s (.d (.bool b)) s1) : EvT K (tTest te) ρ s b s1 := fun M σ H S R Q q => h M σ H S R _ fun v H1 e S1 r => by
  cases r
  exact ⟨b, rfl, q H1 e S1⟩
theorem et_B (h : Ev K te ρ s (.d (.bool b)) s1) : EvT K (tB te) ρ s b s1 := fun M σ H S R Q q => h M σ H S R _ fun v H1 e S1 r => by
  cases r
  exact ⟨b, rfl, q H1 e S1⟩
theorem et_not (h : EvT K t ρ s b s1) : EvT K (tNot t) ρ s (!b) s1 := fun M σ H S R Q q => h M σ H S R _ q
theorem et_and (h1 : EvT K t ρ s b s1) (h2 : b = true → EvT K u ρ s1 c s2) (h3 : b = false → s2 = s1) : EvT K (tAnd t u) ρ s (b && c) s2 := fun M σ H S R Q q => h1 M σ H S R _ fun H1 e S1 => by
  cases b with
  | true => exact h2 rfl M σ H1 S1 (R.mono e) Q fun H2 e2 => q H2 (e.trans e2)
  | false => exact q H1 e (h3 rfl ▸ S1)
theorem et_or (h1 : EvT K t ρ s b s1) (h2 : b = false → EvT K u ρ s1 c s2) (h3 : b = true → s2 = s1) : EvT K (tOr t u) ρ s (b || c) s2 := fun M σ H S R Q q => h1 M σ H S R _ fun H1 e S1 => by
  cases b with
  | false => exact h2 rfl M σ H1 S1 (R.mono e) Q fun H2 e2 => q H2 (e.trans e2)
  | true => exact q H1 e (h3 rfl ▸ S1)
theorem EvT.is (h : EvT K t ρ s b s1) (e : b = c) : EvT K t ρ s c s1 := e ▸ h
theorem ev_andV (h1 : Ev K ta ρ s (.d (.bool b)) s1) (h2 : b = true → Ev K tb ρ s1 (.d (.bool c)) s2) (h3 : b = false → s2 = s1) : Ev K (tAndV ta tb) ρ s (.d (.bool (b && c))) s2 := fun M σ H S R Q q => h1 M σ H S R _ fun v H1 e S1 r => by
  cases r
  refine ⟨b, rfl, ?_⟩
  cases b with
  | true => exact h2 rfl M σ H1 S1 (R.mono e) Q (q.step e)
  | false => exact q _ H1 e (h3 rfl ▸ S1) (.bl false)
theorem ev_orV (h1 : Ev K ta ρ s (.d (.bool b)) s1) (h2 : b = false → Ev K tb ρ s1 (.d (.bool c)) s2) (h3 : b = true → s2 = s1) : Ev K (tOrV ta tb) ρ s (.d (.bool (b || c))) s2 := fun M σ H S R Q q => h1 M σ H S R _ fun v H1 e S1 r => by
  cases r
  refine ⟨b, rfl, ?_⟩
  cases b with
  | false => exact h2 rfl M σ H1 S1 (R.mono e) Q (q.step e)
  | true => exact q _ H1 e (h3 rfl ▸ S1) (.bl true)
theorem ev_notV (h : Ev K ta ρ s (.d (.bool b)) s1) : Ev K (tNotV ta) ρ s (.d (.bool (!b))) s1 := fun M σ H S R Q q => h M σ H S R _ fun v H1 e S1 r => by
  cases r
  exact ⟨b, rfl, q _ H1 e S1 (.bl _)⟩
theorem ev_if (h : EvT K t ρ s b s1) (h1 : b = true → Ev K ta ρ s1 x s2) (h2 : b = false → Ev K tb ρ s1 x s2) : Ev K (tIf t ta tb) ρ s x s2 := fun M σ H S R Q q => h M σ H S R _ fun H1 e S1 => by
  cases b with
  | true => exact h1 rfl M σ H1 S1 (R.mono e) Q (q.step e)
  | false => exact h2 rfl M σ H1 S1 (R.mono e) Q (q.step e)

/-! ### operators by values -/
theorem o_I0i {g : Int → Int → Int} : Op2 K (rI0 fun i j => .int (g i j)) (.d (.int i)) (.d (.int j)) s (.d (.int (g i j))) s := fun M H v w S r1 r2 Q q => by
  cases r1; cases r2
  exact ⟨i, j, rfl, rfl, q.here S (.int _)⟩
theorem o_I0b {g : Int → Int → Bool} : Op2 K (rI0 fun i j => .bl (g i j)) (.d (.int i)) (.d (.int j)) s (.d (.bool (g i j))) s := fun M H v w S r1 r2 Q q => by
  cases r1; cases r2
  exact ⟨i, j, rfl, rfl, q.here S (.bl _)⟩
theorem o_I {C : Int → Int → Prop} {g : Int → Int → Int} (hc : C i j) : Op2 K (rI C fun i j => .int (g i j)) (.d (.int i)) (.d (.int j)) s (.d (.int (g i j))) s := fun M H v w S r1 r2 Q q => by
  cases r1; cases r2
  exact ⟨i, j, rfl, rfl, hc, q.here S (.int _)⟩
theorem o_U {g : Int → Int} : Op1 K (rU fun i => .int (g i)) (.d (.int i)) s (.d (.int (g i))) s := fun M H v S r Q q => by
  cases r
  exact ⟨i, rfl, q.here S (.int _)⟩
theorem o_eq {d e : PyData} (h1 : SeqAt.shaped d = true) (h2 : SeqAt.shaped e = true) : Op2 K (rEqD K) (.d d) (.d e) s (.d (.bool (PyData.eqv d e))) s := fun M H v w S r1 r2 Q q =>
  ⟨d, e, At.dp _ _ (At.mono hid_same _ _ r1), At.dp _ _ (At.mono hid_same _ _ r2), h1, h2, q.here S (.bl _)⟩
theorem o_ne {d e : PyData} (h1 : SeqAt.shaped d = true) (h2 : SeqAt.shaped e = true) : Op2 K (rNeD K) (.d d) (.d e) s (.d (.bool (!PyData.eqv d e))) s := fun M H v w S r1 r2 Q q =>
  ⟨d, e, At.dp _ _ (At.mono hid_same _ _ r1), At.dp _ _ (At.mono hid_same _ _ r2), h1, h2, q.here S (.bl _)⟩
theorem at_get {α β : Type} {R : α → β → Prop} {vs : List α} {ds : List β} (hl : vs.length = ds.length) (hg : ∀ (i : Nat) (d : β), ds[i]? = some d → ∃ v, vs[i]? = some v ∧ R v d) {n : Int} {d : β} (h : atI ds n = some d) : ∃ v, atI vs n = some v ∧ R v d := by
  unfold atI at h ⊢
  rw [hl]
  cases e : ixN ds.length n with
  | none => rw [e] at h; cases h
  | some j =>
    rw [e] at h
    exact hg j d h
/-- x[n] -/
theorem o_ixT {ds : List PyData} {d : PyData} (h : atI ds i = some d) : Op2 K (rIx K) (.d (.tuple ds)) (.d (.int i)) s (.d d) s := fun M H v w S r1 r2 Q q => by
  cases r1 with
  | tup h1 h2 =>
    cases r2
    obtain ⟨v, e, r⟩ := at_get h2.len (fun _ _ e => h2.get e) h
    exact .inr (.inl ⟨_, _, i, v, rfl, rfl, same_t hid_same h1, e, q.here S r⟩)
theorem o_ixL {ds : List PyData} {d : PyData} (h : atI ds i = some d) : Op2 K (rIx K) (.d (.list ds)) (.d (.int i)) s (.d d) s := fun M H v w S r1 r2 Q q => by
  cases r1 with
  | lst h1 h2 =>
    cases r2
    obtain ⟨v, e, r⟩ := at_get h2.len (fun _ _ e => h2.get e) h
    exact .inl ⟨_, _, i, v, rfl, rfl, SqL.of (hid_some h1).2, e, q.here S r⟩
theorem o_ixM {k : Nat} {ds : List PyData} {d : PyData} (hk : s[k]? = some ds) (h : atI ds i = some d) : Op2 K (rIx K) (.loc k) (.d (.int i)) s (.d d) s := fun M H v w S r1 r2 Q q => by
  obtain ⟨p, e1, rfl⟩ := r1
  obtain ⟨p', vs, e2, h1, h2⟩ := S.get hk
  rw [e1] at e2; cases e2
  cases r2
  obtain ⟨v, e, r⟩ := at_get h2.len (fun _ _ e => h2.get e) h
  exact .inl ⟨_, _, i, v, rfl, rfl, SqL.of h1, e, q.here S r⟩
theorem o_ixS {ns : List Int} {n : Int} (h : atI ns i = some n) : Op2 K (rIx K) (.scr ns) (.d (.int i)) s (.d (.int n)) s := fun M H v w S r1 r2 Q q => by
  obtain ⟨a, rfl, h1⟩ := r1
  cases r2
  have e : atI (ns.map V.int) i = some (.int n) := by
    obtain ⟨v, e, r⟩ := at_get (R := fun v d => v = V.int d) (vs := ns.map V.int) (by simp) (fun j d e => ⟨_, by rw [List.getElem?_map, e]; rfl, rfl⟩) h
    rw [e, r]
  refine .inl ⟨_, _, i, _, rfl, rfl, ?_, e, q.here S (.int n)⟩
  rcases h1 with (h1 | ⟨o, h1⟩) | h1
  · exact .inl (.inl (hid_some h1).2)
  · exact .inl (.inr ⟨o, (hid_some h1).2⟩)
  · exact .inr h1
end
end Pw
namespace Pw
open PySem L2
section
variable {K : Fg} {ρ : En} {s s1 s2 s3 : Sto} {x y z : Dx} {xs : List Dx} {ta tb te : TE} {tas : TA} {t u : TT} {r r' : R2} {b c : Bool} {i j k : Int} {X : Cx}

/-! ### one rule an operator, whatever the kinds of its operands -/
structure CM (i j : Int) : Prop where
  ok : IntMulOk i j
theorem cm_ok {i j : Int} (h : CM i j) : IntMulOk i j := h.ok
theorem cm_mk {i j : Int} (h : CMul i j) : CM i j := ⟨h.ok⟩
theorem cm_big {i j : Int} {n m : Nat} (h1 : i.natAbs < 2 ^ n) (h2 : j.natAbs < 2 ^ m) (hn : n ≤ 60000000) (hm : m ≤ 60000000) : CM i j := ⟨by
  intro q
  rw [Bool.and_eq_true] at q
  have z2 := q.2
  unfold Builtin.Int.intTooBig at z2
  have z3 := of_decide_eq_true z2
  rw [show bitsLine = 134217728 by decide] at z3
  have a := PyProof.Rows.intBits_le h1
  have b := PyProof.Rows.intBits_le h2
  omega⟩
structure CF (i j : Int) : Prop where
  nz : j ≠ 0
  sm : j.natAbs.log2 < 9000
theorem o_inl {s' : Sto} (h : Op2 K r x y s z s') : Op2 K (fun x y H Q => r x y H Q ∨ r' x y H Q) x y s z s' := fun M H v w S r1 r2 Q q => .inl (h M H v w S r1 r2 Q q)
theorem o_inr {s' : Sto} (h : Op2 K r' x y s z s') : Op2 K (fun x y H Q => r x y H Q ∨ r' x y H Q) x y s z s' := fun M H v w S r1 r2 Q q => .inr (h M H v w S r1 r2 Q q)
def rAddI : R2 := rI0 fun i j => .int (i + j)
def rAddS : R2 := fun x y H Q => ∃ i j, x = .str i ∧ y = .str j ∧ i.length + j.length ≤ sizeLine ∧ Q (.str (i ++ j)) H
def rPlus (K : Fg) : R2 := fun x y H Q => rAddI x y H Q ∨ rAddS x y H Q ∨ rCat x y H Q ∨ rCatA K x y H Q
theorem op_plus : OpR X (binaryOp .Add) (rPlus X.K) := op_add.or (op_add_str.or (op_cat.or op_catA))
def rMulI : R2 := rI CM fun i j => .int (i * j)
theorem op_mulA : OpR X (binaryOp .Mult) rMulI := opI fun _ _ _ _ _ _ _ hc q => PyProof.Rows.mul_int q (cm_ok hc)
def rTimes : R2 := fun x y H Q => rMulI x y H Q ∨ rRep x y H Q
theorem op_times : OpR X (binaryOp .Mult) rTimes := op_mulA.or op_rep
def rFdiv : R2 := rI CF fun i j => .int (i.fdiv j)
theorem op_fdivA : OpR X (binaryOp .FloorDiv) rFdiv := opI fun _ j _ _ _ _ _ hc q => PyProof.Rows.floordiv_int hc.nz q (.inl (PyProof.noPylong_of_log2 hc.sm))
def rMod : R2 := rI (fun _ j => j ≠ 0) fun i j => .int (i.fmod j)
theorem op_modA : OpR X (binaryOp .Mod) rMod := op_modN
def rMinus : R2 := rI0 fun i j => .int (i - j)
theorem op_minus : OpR X (binaryOp .Sub) rMinus := op_sub
def rPow : R2 := rI CPow fun i j => .int (i ^ j.toNat)
theorem op_powA : OpR X (binaryOp .Pow) rPow := op_pow
def rLt : R2 := rI0 fun i j => .bl (decide (i < j))
def rLe : R2 := rI0 fun i j => .bl (decide (i ≤ j))
def rGt : R2 := rI0 fun i j => .bl (decide (j < i))
def rGe : R2 := rI0 fun i j => .bl (decide (j ≤ i))
theorem op_ltA : OpR X (compareOp .Lt) rLt := op_lt
theorem op_leA : OpR X (compareOp .LtE) rLe := op_le
theorem op_gtA : OpR X (compareOp .Gt) rGt := op_gt
theorem op_geA : OpR X (compareOp .GtE) rGe := op_ge
def rNeg : V → Hp → VK → Prop := rU fun i => .int (-i)
theorem un_negA : UnR X (unaryOp .USub) rNeg := un_neg
def rIsN : R2 := fun x y H Q => y = .non ∧ Q (.bl (decide (x = .non))) H
def rNotN : R2 := fun x y H Q => y = .non ∧ Q (.bl (!decide (x = .non))) H
theorem op_isA : OpR X (compareOp .Is) (fun x y H Q => rIsN x y H Q ∨ ∃ a b : Bool, x = .bl a ∧ y = .bl b ∧ Q (.bl (decide (a = b))) H) := op_isN.or op_is_bl
theorem op_isnotA : OpR X (compareOp .IsNot) (fun x y H Q => rNotN x y H Q ∨ ∃ a b : Bool, x = .bl a ∧ y = .bl b ∧ Q (.bl (!decide (a = b))) H) := op_notN.or op_isnot_bl
def rIs : R2 := fun x y H Q => rIsN x y H Q ∨ ∃ a b : Bool, x = .bl a ∧ y = .bl b ∧ Q (.bl (decide (a = b))) H
def rIsnt : R2 := fun x y H Q => rNotN x y H Q ∨ ∃ a b : Bool, x = .bl a ∧ y = .bl b ∧ Q (.bl (!decide (a = b))) H
theorem op_is : OpR X (compareOp .Is) rIs := op_isA
theorem op_isnt : OpR X (compareOp .IsNot) rIsnt := op_isnotA

theorem o_add : Op2 K (rPlus K) (.d (.int i)) (.d (.int j)) s (.d (.int (i + j))) s := fun M H v w S r1 r2 Q q => .inl (o_I0i (g := fun i j => i + j) M H v w S r1 r2 Q q)
theorem o_addS {a b : Str} (h : a.length + b.length ≤ 16000000) : Op2 K (rPlus K) (.d (.str a)) (.d (.str b)) s (.d (.str (a ++ b))) s := fun M H v w S r1 r2 Q q => by
  cases r1; cases r2
  exact .inr (.inl ⟨a, b, rfl, rfl, Nat.le_trans h (by decide), q.here S (.str _)⟩)
theorem o_cat {ds es : List PyData} (h : ds.length + es.length ≤ 1000000) : Op2N K (rPlus K) (.d (.list ds)) (.d (.list es)) s (ds ++ es) s := fun M H v w S r1 r2 Q q => by
  cases r1 with
  | lst h1 a1 =>
    cases r2 with
    | lst h2 a2 =>
      refine .inr (.inr (.inl ⟨_, _, _, _, rfl, rfl, (hid_some h1).2, (hid_some h2).2, ?_, fun p hp => ?_⟩))
      · rw [a1.len, a2.len]; exact Nat.le_trans h (by decide)
      · exact q p _ hp (hid_new hp) (S.add hp (a1.append a2)) (S.new hp)
theorem o_catT {ds es : List PyData} (h : ds.length + es.length ≤ 1000000) : Op2 K (rPlus K) (.d (.tuple ds)) (.d (.tuple es)) s (.d (.tuple (ds ++ es))) s := fun M H v w S r1 r2 Q q => by
  cases r1 with
  | @tup a xs _ h1 a1 =>
    cases r2 with
    | @tup a' ys _ h2 a2 =>
      refine .inr (.inr (.inr ⟨_, _, _, _, rfl, rfl, same_t hid_same h1, same_t hid_same h2, ?_, fun e => ?_, fun e e' => ?_, fun e e' p hp => ?_⟩))
      · rw [a1.len, a2.len]; exact Nat.le_trans h (by decide)
      · subst e
        cases a1
        exact q.here S (At.tup h2 a2)
      · subst e'
        cases a2
        rw [List.append_nil] at q
        exact q.here S (At.tup h1 a1)
      · refine q _ _ (hid_new hp) (S.new hp) (At.tup (SqT.of ?_) (AtAll.mono (hid_new hp) _ _ (a1.append a2)))
        rw [hid_out (S.free hp)]
        exact upd_same
theorem o_mul (h : CM i j) : Op2 K rTimes (.d (.int i)) (.d (.int j)) s (.d (.int (i * j))) s := fun M H v w S r1 r2 Q q => .inl (o_I (C := CM) (g := fun i j => i * j) h M H v w S r1 r2 Q q)
theorem AtAll.rep {K : Fg} {H : Hp} {vs : List V} {ds : List PyData} (a : AtAll K H vs ds) : ∀ n, AtAll K H (List.replicate n vs).flatten (List.replicate n ds).flatten
  | 0 => .nil
  | n + 1 => by
    rw [List.replicate_succ, List.replicate_succ, List.flatten_cons, List.flatten_cons]
    exact a.append (AtAll.rep a n)
theorem o_rep {ds : List PyData} {n : Nat} (h : ds.length * n ≤ 1000000) (h2 : n ≤ 1000000) : Op2N K rTimes (.d (.list ds)) (.d (.int (n : Int))) s (List.replicate n ds).flatten s := fun M H v w S r1 r2 Q q => by
  cases r1 with
  | lst h1 a1 =>
    cases r2
    refine .inr ⟨_, (n : Int), _, rfl, rfl, (hid_some h1).2, by omega, by omega, ?_, fun p hp => ?_⟩
    · rw [a1.len, Int.toNat_natCast]; exact Nat.le_trans h (by decide)
    · rw [Int.toNat_natCast]
      exact q p _ hp (hid_new hp) (S.add hp (a1.rep n)) (S.new hp)
theorem o_fdiv (h : CF i j) : Op2 K rFdiv (.d (.int i)) (.d (.int j)) s (.d (.int (i.fdiv j))) s := o_I h
theorem o_mod (h : j ≠ 0) : Op2 K rMod (.d (.int i)) (.d (.int j)) s (.d (.int (i.fmod j))) s := o_I (C := fun _ j => j ≠ 0) h
theorem o_minus : Op2 K rMinus (.d (.int i)) (.d (.int j)) s (.d (.int (i - j))) s := o_I0i (g := fun i j => i - j)
theorem o_pow (h : CPow i j) : Op2 K rPow (.d (.int i)) (.d (.int j)) s (.d (.int (i ^ j.toNat))) s := o_I h
theorem o_lt : Op2 K rLt (.d (.int i)) (.d (.int j)) s (.d (.bool (decide (i < j)))) s := o_I0b (g := fun i j => decide (i < j))
theorem o_le : Op2 K rLe (.d (.int i)) (.d (.int j)) s (.d (.bool (decide (i ≤ j)))) s := o_I0b (g := fun i j => decide (i ≤ j))
theorem o_gt : Op2 K rGt (.d (.int i)) (.d (.int j)) s (.d (.bool (decide (j < i)))) s := o_I0b (g := fun i j => decide (j < i))
theorem o_ge : Op2 K rGe (.d (.int i)) (.d (.int j)) s (.d (.bool (decide (j ≤ i)))) s := o_I0b (g := fun i j => decide (j ≤ i))
theorem o_neg : Op1 K rNeg (.d (.int i)) s (.d (.int (-i))) s := o_U (g := fun i => -i)
def isNo : PyData → Bool
  | .none => true
  | _ => false
theorem at_non {H : Hp} {v : V} {d : PyData} (h : At K H v d) : decide (v = .non) = isNo d := by
  cases h <;> rfl
theorem o_isN {d : PyData} : Op2 K rIs (.d d) (.d .none) s (.d (.bool (isNo d))) s := fun M H v w S r1 r2 Q q => by
  cases r2
  refine .inl ⟨rfl, ?_⟩
  rw [at_non r1]
  exact q.here S (.bl _)
theorem o_isntN {d : PyData} : Op2 K rIsnt (.d d) (.d .none) s (.d (.bool (!isNo d))) s := fun M H v w S r1 r2 Q q => by
  cases r2
  refine .inl ⟨rfl, ?_⟩
  rw [at_non r1]
  exact q.here S (.bl _)
theorem o_isB {a b : Bool} : Op2 K rIs (.d (.bool a)) (.d (.bool b)) s (.d (.bool (decide (a = b)))) s := fun M H v w S r1 r2 Q q => by
  cases r1; cases r2
  exact .inr ⟨a, b, rfl, rfl, q.here S (.bl _)⟩
theorem o_isntB {a b : Bool} : Op2 K rIsnt (.d (.bool a)) (.d (.bool b)) s (.d (.bool (!decide (a = b)))) s := fun M H v w S r1 r2 Q q => by
  cases r1; cases r2
  exact .inr ⟨a, b, rfl, rfl, q.here S (.bl _)⟩

/-! ### built-ins -/
def rAbs : List V → Hp → VK → Prop := fun xs H Q => ∃ i, xs = [.int i] ∧ Q (.int (if i < 0 then -i else i)) H
theorem cb_abs : CallR X (.builtin "abs") rAbs := call_abs
theorem o_abs : OpC K rAbs [.d (.int i)] s (.d (.int (if i < 0 then -i else i))) s := fun M H vs S r Q q => by
  cases r with
  | cons h t =>
    cases t
    cases h
    exact ⟨i, rfl, q.here S (.int _)⟩
def rInt : List V → Hp → VK → Prop := fun xs H Q => (∃ i, xs = [.int i] ∧ Q (.int i) H) ∨ ∃ k, xs = [.bl k] ∧ Q (.int (if k then 1 else 0)) H
theorem cb_int : CallR X (.type "int") rInt := call_int1
theorem o_intB : OpC K rInt [.d (.bool b)] s (.d (.int (if b then 1 else 0))) s := fun M H vs S r Q q => by
  cases r with
  | cons h t =>
    cases t
    cases h
    exact .inr ⟨b, rfl, q.here S (.int _)⟩
def rMin2 : List V → Hp → VK → Prop := fun xs H Q => ∃ i j, xs = [.int i, .int j] ∧ Q (.int (if j < i then j else i)) H
theorem cb_min2 (hc : X.calm = true) : CallR X (.builtin "min") rMin2 := call_min2 hc
theorem o_min2 : OpC K rMin2 [.d (.int i), .d (.int j)] s (.d (.int (if j < i then j else i))) s := fun M H vs S r Q q => by
  cases r with
  | cons h t =>
    cases t with
    | cons h2 t =>
      cases t
      cases h; cases h2
      exact ⟨i, j, rfl, q.here S (.int _)⟩
def rMax2' : List V → Hp → VK → Prop := fun xs H Q => ∃ i j, xs = [.int i, .int j] ∧ Q (.int (if j > i then j else i)) H
theorem cb_max2 (hc : X.calm = true) : CallR X (.builtin "max") rMax2' := call_max2 hc
theorem o_max2 : OpC K rMax2' [.d (.int i), .d (.int j)] s (.d (.int (if j > i then j else i))) s := fun M H vs S r Q q => by
  cases r with
  | cons h t =>
    cases t with
    | cons h2 t =>
      cases t
      cases h; cases h2
      exact ⟨i, j, rfl, q.here S (.int _)⟩
def rLen (K : Fg) : List V → Hp → VK → Prop := fun xs H Q => ∃ x n, xs = [x] ∧ LenV K x H n ∧ Q (.int (n : Nat)) H
theorem cb_len : CallR X (.builtin "len") (rLen X.K) := call_len
theorem o_lenL {ds : List PyData} : OpC K (rLen K) [.d (.list ds)] s (.d (.int (ds.length : Nat))) s := fun M H vs S r Q q => by
  cases r with
  | cons h t =>
    cases t
    cases h with
    | lst h a => exact ⟨_, _, rfl, .inl ⟨_, SqL.of (hid_some h).2, rfl⟩, by rw [a.len]; exact q.here S (.int _)⟩
theorem o_lenT {ds : List PyData} : OpC K (rLen K) [.d (.tuple ds)] s (.d (.int (ds.length : Nat))) s := fun M H vs S r Q q => by
  cases r with
  | cons h t =>
    cases t
    cases h with
    | tup h a => exact ⟨_, _, rfl, .inr ⟨_, same_t hid_same h, rfl⟩, by rw [a.len]; exact q.here S (.int _)⟩
theorem o_lenS {w : Str} (hw : w.length ≤ 16000000) : OpC K (rLen K) [.d (.str w)] s (.d (.int (w.length : Nat))) s := fun M H vs S r Q q => by
  cases r with
  | cons h t =>
    cases t
    cases h
    exact ⟨_, _, rfl, ⟨Nat.le_trans hw (by decide), rfl⟩, q.here S (.int _)⟩
theorem o_lenM {n : Nat} {ds : List PyData} (hk : s[n]? = some ds) : OpC K (rLen K) [.loc n] s (.d (.int (ds.length : Nat))) s := fun M H vs S r Q q => by
  cases r with
  | cons h t =>
    cases t
    obtain ⟨p, e1, rfl⟩ := h
    obtain ⟨p', ws, e2, h1, h2⟩ := S.get hk
    rw [e1] at e2; cases e2
    exact ⟨_, _, rfl, .inl ⟨_, SqL.of h1, rfl⟩, by rw [h2.len]; exact q.here S (.int _)⟩
theorem o_lenC {ns : List Int} : OpC K (rLen K) [.scr ns] s (.d (.int (ns.length : Nat))) s := fun M H vs S r Q q => by
  cases r with
  | cons h t =>
    cases t
    obtain ⟨a, rfl, h1⟩ := h
    refine ⟨_, _, rfl, .inl ⟨ns.map V.int, ?_, rfl⟩, by rw [List.length_map]; exact q.here S (.int _)⟩
    rcases h1 with (h1 | ⟨o, h1⟩) | h1
    · exact .inl (.inl (hid_some h1).2)
    · exact .inl (.inr ⟨o, (hid_some h1).2⟩)
    · exact .inr h1
theorem cb_all (hc : X.calm = true) : CallR X (.builtin "all") (rAll X.K) := cr_all hc
theorem o_all {bs : List Bool} : OpC K (rAll K) [.d (.list (bs.map PyData.bool))] s (.d (.bool (bs.all id))) s := fun M H vs S r Q q => by
  cases r with
  | cons h t =>
    cases t
    cases h with
    | lst h a =>
      have e := AtAll.bls a
      subst e
      exact ⟨_, bs, rfl, SqL.of (hid_some h).2, q.here S (.bl _)⟩
theorem o_gcd : OpC K rGcd [.d (.int i), .d (.int j)] s (.d (.int ((Nat.gcd i.natAbs j.natAbs : Nat) : Int))) s := fun M H vs S r Q q => by
  cases r with
  | cons h t =>
    cases t with
    | cons h2 t =>
      cases t
      cases h; cases h2
      exact ⟨i, j, rfl, q.here S (.int _)⟩
/-- list(t), list(xs): a new list -/
def rListOf (K : Fg) : List V → Hp → VK → Prop := fun xs H Q => ∃ p ys, xs = [.ref p] ∧ (SqL K H p ys ∨ SqT K H p ys) ∧ ∀ l, H l = none → Q (.ref l) (upd H l (.lst ys))
theorem cb_list : CallR X (.type "list") (rListOf X.K) := call_list_of
def OpCN (K : Fg) (r : List V → Hp → VK → Prop) (xs : List Dx) (s : Sto) (ds : List PyData) (s' : Sto) : Prop := ∀ M H vs, So K M s H → RXs K M H vs xs → ∀ Q : VK,
  (∀ p H', H p = none → Same (hid M H) (hid M H') → So K (M ++ [p]) (s' ++ [ds]) H' → So K M s' H' → Q (.ref p) H') → r vs H Q
theorem evn_cb {r : List V → Hp → VK → Prop} {ds : List PyData} (ha : Eva K tas ρ s xs s1) (hr : OpCN K r xs s1 ds s2) : EvN K (tCB r tas) ρ s ds s2 := fun M σ H S R Q q =>
  ha M σ H S R _ fun v H1 e1 S1 r1 => hr M H1 v S1 r1 Q fun p H2 hp e2 => q p H2 (by
    cases hq : H p with
    | none => rfl
    | some o =>
      have := hid_some (e1 p o (by rw [hid_out (S1.free hp)]; exact hq))
      rw [hp] at this; cases this.2) (e1.trans e2)
theorem o_listT {ds : List PyData} : OpCN K (rListOf K) [.d (.tuple ds)] s ds s := fun M H vs S r Q q => by
  cases r with
  | cons h t =>
    cases t
    cases h with
    | tup h a => exact ⟨_, _, rfl, .inr (same_t hid_same h), fun p hp => q p _ hp (hid_new hp) (S.add hp a) (S.new hp)⟩
theorem o_listL {ds : List PyData} : OpCN K (rListOf K) [.d (.list ds)] s ds s := fun M H vs S r Q q => by
  cases r with
  | cons h t =>
    cases t
    cases h with
    | lst h a => exact ⟨_, _, rfl, .inl (SqL.of (hid_some h).2), fun p hp => q p _ hp (hid_new hp) (S.add hp a) (S.new hp)⟩
def rTupOf (K : Fg) : List V → Hp → VK → Prop := fun xs H Q => ∃ p ys, xs = [.ref p] ∧ ((SqL K H p ys ∧ ∀ l, H l = none → Q (.ref l) (upd H l (.tup ys))) ∨ (SqT K H p ys ∧ Q (.ref p) H))
theorem cb_tup : CallR X (.type "tuple") (rTupOf X.K) := call_tuple_of
theorem o_tupM {n : Nat} {ds : List PyData} (hk : s[n]? = some ds) : OpC K (rTupOf K) [.loc n] s (.d (.tuple ds)) s := fun M H vs S r Q q => by
  cases r with
  | cons h t =>
    cases t
    obtain ⟨p, e1, rfl⟩ := h
    obtain ⟨p', ws, e2, h1, h2⟩ := S.get hk
    rw [e1] at e2; cases e2
    refine ⟨_, _, rfl, .inl ⟨SqL.of h1, fun l hl => ?_⟩⟩
    refine q _ _ (hid_new hl) (S.new hl) (At.tup (SqT.of ?_) (AtAll.mono (hid_new hl) _ _ h2))
    rw [hid_out (S.free hl)]
    exact upd_same

/-! ### isinstance -/
def tyN : PyData → String
  | .none => "NoneType" | .bool _ => "bool" | .int _ => "int" | .str _ => "str" | .list _ => "list" | .tuple _ => "tuple" | .dict _ => "dict"
theorem at_ty {M : List Addr} {H : Hp} {v : V} {d : PyData} (h : At K (hid M H) v d) : TyX K H v (.type (tyN d)) := by
  cases h with
  | non => exact .base .non
  | bl b => exact .base (.bl b)
  | int i => exact .base (.int i)
  | str x => exact .base (.str x)
  | lst h a => exact .base (.lst (hid_some h).2)
  | tup h a =>
    rcases h with (h | ⟨o, h⟩) | ⟨o, its, n, hk, hc, _⟩
    · exact .base (.tup (hid_some h).2)
    · exact .fTuple (hid_some h).2
    · exact .kTuple hk hc
theorem ev_isi {d : PyData} {T : String} (h : Ev K te ρ s (.d d) s1) (e : kitB (tyN d) T = some b) : Ev K (tCB (rIsi K) (tCons te (tCons (tC (.ty T)) tNil))) ρ s (.d (.bool b)) s1 := fun M σ H S R Q q =>
  h M σ H S R _ fun v H1 e1 S1 r1 => ⟨v, .ty T, _, _, b, rfl, .ty T, at_ty r1, kit_ty e, q _ H1 e1 S1 (.bl b)⟩
theorem ev_isi2 {d : PyData} {T U : String} {b1 b2 : Bool} (h : Ev K te ρ s (.d d) s1) (e1 : kitB (tyN d) T = some b1) (e2 : kitB (tyN d) U = some b2) :
    Ev K (tCB (rIsiT K) (tCons te (tCons (tTup (tCons (tC (.ty T)) (tCons (tC (.ty U)) tNil))) tNil))) ρ s (.d (.bool (b1 || b2))) s1 := fun M σ H S R Q q =>
  h M σ H S R _ fun v H1 f1 S1 r1 => ⟨by show 2 ≤ sizeLine; decide, fun p hp => by
    refine ⟨v, p, _, .type (tyN d), [.type T, .type U], b1 || b2, rfl, upd_same, .cons (.ty T) (.cons (.ty U) .nil), at_ty (M := M) (At.mono (hid_new hp) d v r1), ?_, ?_⟩
    · refine kitAny_cons (kit_ty e1) (fun z => ?_) (fun z => by rw [z]; rfl)
      subst z
      refine kitAny_cons (kit_ty e2) (fun z => ?_) (fun z => by rw [z]; rfl)
      rw [z]
      exact kitAny_nil
    · exact q _ _ (f1.trans (hid_new hp)) (S1.new hp) (.bl _)⟩

/-! ### repr of data -/
def rRepr (K : Fg) : List V → Hp → VK → Prop := fun xs H Q => ∃ x d, xs = [x] ∧ Dp K H x d ∧ PyData.showable d = true ∧ PyData.hasDict d = false ∧ d.depth ≤ 60 ∧ d.shown.length ≤ sizeLine ∧ Q (.str d.shown) H
end
end Pw
namespace Pw
open PySem L2
section
variable {K : Fg} {ρ ρ' : En} {s s1 s2 s3 : Sto} {x y z : Dx} {xs : List Dx} {ta tb te : TE} {tas : TA} {t u : TT} {r r' : R2} {b c : Bool} {i j k : Int} {X : Cx}

/-! ## statements: a frame that began with the store's lists M0 in the heap H0; F: what is kept besides -/
abbrev Kp := List (V × PyData)
structure Rl (K : Fg) (M0 : List Addr) (H0 : Hp) (F : Kp) (M : List Addr) (s : Sto) (ρ : En) (σ : L2.St) (H : Hp) : Prop where
  ext : ∃ N, M = M0 ++ N ∧ ∀ p ∈ N, H0 p = none
  same : Same (hid M0 H0) (hid M0 H)
  so : So K M s H
  re : RE K M H σ ρ
  kp : ∀ q ∈ F, At K (hid M H) q.1 q.2
def W (K : Fg) (M0 : List Addr) (H0 : Hp) (F : Kp) (P : L2.St → Hp → Prop) (ρ : En) (s : Sto) : Prop := ∀ M σ H, Rl K M0 H0 F M s ρ σ H → P σ H
variable {M0 M : List Addr} {H0 H H1 : Hp} {F : Kp} {D : Ends} {σ : L2.St} {P : L2.St → Hp → Prop} {tu tw : TS} {n m : Nat}
theorem Rl.sub (h : Rl K M0 H0 F M s ρ σ H) (e : Same (hid M H) (hid M H1)) : Same (hid M0 H0) (hid M0 H1) := fun a o h1 => by
  obtain ⟨N, hM, hN⟩ := h.ext
  have h2 := h.same a o h1
  obtain ⟨c, h3⟩ := hid_some h2
  obtain ⟨_, h0⟩ := hid_some h1
  have c2 : a ∉ M := fun m => by
    rw [hM] at m
    rcases List.mem_append.mp m with m | m
    · exact c m
    · rw [hN a m] at h0; cases h0
  have h4 := e a o (by rw [hid_out c2]; exact h3)
  rw [hid_out c]
  exact (hid_some h4).2
theorem Rl.step (h : Rl K M0 H0 F M s ρ σ H) (e : Same (hid M H) (hid M H1)) (S : So K M s1 H1) : Rl K M0 H0 F M s1 ρ σ H1 :=
  ⟨h.ext, h.sub e, S, h.re.mono e, fun q hq => At.mono e _ _ (h.kp q hq)⟩
theorem Rl.set {v : V} (h : Rl K M0 H0 F M s ρ σ H) (r : RX K M H v x) : Rl K M0 H0 F M s (ρ.set n (some x)) (σ.set n (some v)) H :=
  ⟨h.ext, h.same, h.so, h.re.set r, h.kp⟩
theorem Rl.old (h : Rl K M0 H0 F M s ρ σ H) {p : Addr} (hp : H p = none) : H0 p = none := by
  cases e : H0 p with
  | none => rfl
  | some o =>
    obtain ⟨N, hM, _⟩ := h.ext
    have c : p ∉ M0 := fun m => h.so.free hp (by rw [hM]; exact List.mem_append_left _ m)
    have := h.same p o (by rw [hid_out c]; exact e)
    rw [(hid_some this).2] at hp
    cases hp
theorem RX.up {M' : List Addr} {H' : Hp} {v : V} (e : Same (hid M H) (hid M' H')) (hM : ∀ (k : Nat) p, M[k]? = some p → M'[k]? = some p) : ∀ {x : Dx}, RX K M H v x → RX K M' H' v x
  | .d d, h => At.mono e d v h
  | .loc _, ⟨p, h1, h2⟩ => ⟨p, hM _ p h1, h2⟩
  | .scr _, ⟨a, h1, h2⟩ => ⟨a, h1, e.seq h2⟩
theorem get_app {α : Type} {M N : List α} (k : Nat) (p : α) (h : M[k]? = some p) : (M ++ N)[k]? = some p := by
  rw [List.getElem?_append_left (List.getElem?_eq_some_iff.mp h).1]
  exact h
/-- a new list joins -/
theorem Rl.add {p : Addr} {ds : List PyData} (h : Rl K M0 H0 F M s ρ σ H) (hp : H p = none) (e : Same (hid M H) (hid M H1)) (S : So K (M ++ [p]) (s1 ++ [ds]) H1) : Rl K M0 H0 F (M ++ [p]) (s1 ++ [ds]) ρ σ H1 := by
  obtain ⟨N, hM, hN⟩ := h.ext
  have e2 : Same (hid M H) (hid (M ++ [p]) H1) := fun a o h1 => by
    obtain ⟨c, h2⟩ := hid_some h1
    rw [hid_out (by simp [c, ne_of_none h2 hp])]
    exact (hid_some (e a o h1)).2
  refine ⟨⟨N ++ [p], by rw [hM, List.append_assoc], fun q hq => ?_⟩, h.sub e, S, ⟨h.re.len, fun i x hx => ?_⟩, fun q hq => At.mono e2 _ _ (h.kp q hq)⟩
  · rcases List.mem_append.mp hq with hq | hq
    · exact hN q hq
    · simp at hq
      subst hq
      exact h.old hp
  · obtain ⟨v, h1, h2⟩ := h.re.at_ i x hx
    exact ⟨v, h1, h2.up e2 fun k p hk => get_app k p hk⟩

/-- what a def hands back -/
def Okr (K : Fg) (M0 : List Addr) (H0 : Hp) (x : Dx) (s' : Sto) (Q : VK) : Prop := ∀ M v H', (∃ N, M = M0 ++ N) → Same (hid M0 H0) (hid M0 H') → So K M s' H' → RX K M H' v x → Q v H'
/-- .. a new list -/
def OkN (K : Fg) (M0 : List Addr) (H0 : Hp) (ds : List PyData) (s' : Sto) (Q : VK) : Prop := ∀ p H', H0 p = none → Same (hid M0 H0) (hid M0 H') → So K (M0 ++ [p]) (s' ++ [ds]) H' → So K M0 s' H' → Q (.ref p) H'
theorem okr_d {Q : VK} {d : PyData} {t : Sto} (q : Okk K M0 s1 (.d d) H0 Q) (hl : s1.length = M0.length) : Okr K M0 H0 (.d d) (s1 ++ t) Q := fun M v H' ⟨N, hM⟩ e S r => by
  subst hM
  exact q v H' e (S.cut hl) (At.mono (hid_sub fun a m => List.mem_append_left _ m) d v r)
theorem okr_any {Q : VK} (q : Okk K M0 s1 x H0 Q) : ∀ v H', Same (hid M0 H0) (hid M0 H') → So K M0 s1 H' → RX K M0 H' v x → Q v H' := q
theorem w_asg (h : Ev K te ρ s x s1) (k : W K M0 H0 F D.nx (ρ.set n (some x)) s1) : W K M0 H0 F (tAsg te (gName n) D) ρ s := fun M σ H R =>
  h M σ H R.so R.re _ fun v H1 e S r => k M _ H1 ((R.step e S).set r)
theorem w_asgN {ds : List PyData} (h : EvN K te ρ s ds s1) (k : W K M0 H0 F D.nx (ρ.set n (some (.loc s1.length))) (s1 ++ [ds])) : W K M0 H0 F (tAsg te (gName n) D) ρ s := fun M σ H R =>
  h M σ H R.so R.re _ fun p H1 hp e S S2 => k _ _ H1 ((R.add hp e S).set ⟨p, by rw [S2.len]; simp, rfl⟩)
theorem w_ret (h : Ev K te ρ s x s1) (q : Okr K M0 H0 x s1 D.rt) : W K M0 H0 F (tRet te D) ρ s := fun M σ H R =>
  h M σ H R.so R.re _ fun v H1 e S r => q M v H1 (let ⟨N, a, _⟩ := R.ext; ⟨N, a⟩) (R.sub e) S r
theorem w_retN {ds : List PyData} (h : EvN K te ρ s ds s1) (hl : s.length = M0.length) (q : OkN K M0 H0 ds s1 D.rt) : W K M0 H0 F (tRet te D) ρ s := fun M σ H R => by
  obtain ⟨N, hM, hN⟩ := id R.ext
  have e : N = [] := by
    have := R.so.len
    rw [hM, List.length_append, hl] at this
    exact List.eq_nil_of_length_eq_zero (by omega)
  subst e
  rw [List.append_nil] at hM
  subst hM
  exact h _ σ H R.so R.re _ fun p H1 hp e S S2 => q p H1 (R.old hp) (R.sub e) S S2
theorem w_if (h : EvT K t ρ s b s1) (h1 : b = true → W K M0 H0 F (tu D) ρ s1) (h2 : b = false → W K M0 H0 F (tw D) ρ s1) : W K M0 H0 F (tIfS t tu tw D) ρ s := fun M σ H R =>
  h M σ H R.so R.re _ fun H1 e S => by
    cases b with
    | true => exact h1 rfl M σ H1 (R.step e S)
    | false => exact h2 rfl M σ H1 (R.step e S)
theorem w_seq (h : W K M0 H0 F (tu { D with nx := tw D }) ρ s) : W K M0 H0 F (tSeq tu tw D) ρ s := h
theorem w_next (h : W K M0 H0 F D.nx ρ s) : W K M0 H0 F (tNext D) ρ s := h
theorem w_drop (h : Ev K te ρ s x s1) (k : W K M0 H0 F D.nx ρ s1) : W K M0 H0 F (tDrop te D) ρ s := fun M σ H R =>
  h M σ H R.so R.re _ fun v H1 e S r => k M _ H1 (R.step e S)
theorem w_aug {ti : TIp} (h0 : ρ[n]? = some (some x)) (h : Ev K te ρ s y s1) (hr : Op2 K ti x y s1 z s2) (k : W K M0 H0 F D.nx (ρ.set n (some z)) s2) : W K M0 H0 F (tAug n te ti D) ρ s := fun M σ H R => by
  obtain ⟨v, h1, h2⟩ := R.re.at_ n x h0
  exact ⟨v, h1, h M σ H R.so R.re _ fun w H1 e S r => hr M H1 v w S (h2.mono e) r _ fun u H2 e2 S2 r2 => k M _ H2 ((R.step (e.trans e2) S2).set r2)⟩
/-- a, b = e1, e2 (no tuple) -/
theorem w_par (h : Eva K tas ρ s [x, y] s1) (k : W K M0 H0 F D.nx ((ρ.set n (some x)).set m (some y)) s1) : W K M0 H0 F (tPar n m tas D) ρ s := fun M σ H R =>
  h M σ H R.so R.re _ fun vs H1 e S r => by
    cases r with
    | cons h1 r =>
      cases r with
      | cons h2 r =>
        cases r
        exact ⟨_, _, rfl, k M _ H1 (((R.step e S).set h1).set h2)⟩
/-- a, b = t -/
theorem w_tup2 {d1 d2 : PyData} (h : Ev K te ρ s (.d (.tuple [d1, d2])) s1) (k : W K M0 H0 F D.nx ((ρ.set n (some (.d d1))).set m (some (.d d2))) s1) : W K M0 H0 F (tAsg te (gTup K 2 (gCons (gName n) (gCons (gName m) gNil))) D) ρ s := fun M σ H R =>
  h M σ H R.so R.re _ fun v H1 e S r => by
    cases r with
    | tup h1 a =>
      cases a with
      | cons a1 a =>
        cases a with
        | cons a2 a =>
          cases a
          exact ⟨_, _, rfl, same_t hid_same h1, rfl, _, _, rfl, _, _, rfl, rfl, k M _ H1 (((R.step e S).set (x := .d d1) a1).set (x := .d d2) a2)⟩
theorem w_tup3 {o : Nat} {d1 d2 d3 : PyData} (h : Ev K te ρ s (.d (.tuple [d1, d2, d3])) s1) (k : W K M0 H0 F D.nx (((ρ.set n (some (.d d1))).set m (some (.d d2))).set o (some (.d d3))) s1) : W K M0 H0 F (tAsg te (gTup K 3 (gCons (gName n) (gCons (gName m) (gCons (gName o) gNil)))) D) ρ s := fun M σ H R =>
  h M σ H R.so R.re _ fun v H1 e S r => by
    cases r with
    | tup h1 a =>
      cases a with
      | cons a1 a =>
        cases a with
        | cons a2 a =>
          cases a with
          | cons a3 a =>
            cases a
            exact ⟨_, _, rfl, same_t hid_same h1, rfl, _, _, rfl, _, _, rfl, _, _, rfl, rfl, k M _ H1 ((((R.step e S).set (x := .d d1) a1).set (x := .d d2) a2).set (x := .d d3) a3)⟩
/-- l[j] = e, l a list of the store -/
theorem w_setI {tl tj : TE} {d : PyData} {ds : List PyData} {l : Nat} {jn : Nat} (hv : Ev K te ρ s (.d d) s1) (hl : Ev K tl ρ s1 (.loc l) s1) (hj : Ev K tj ρ s1 (.d (.int j)) s1) (hd : s1[l]? = some ds) (hi : ixN ds.length j = some jn)
    (k : W K M0 H0 F D.nx ρ (s1.set l (ds.set jn d))) : W K M0 H0 F (tAsg te (gSub tl tj rSetL) D) ρ s := fun M σ H R =>
  hv M σ H R.so R.re _ fun v H1 e1 S1 r1 => hl M σ H1 S1 (R.re.mono e1) _ fun w H2 e2 S2 r2 => hj M σ H2 S2 (R.re.mono (e1.trans e2)) _ fun w3 H3 e3 S3 r3 => by
    obtain ⟨p, hp, rfl⟩ := r2
    cases r3
    obtain ⟨p', vs, hp', h1, h2⟩ := S3.get hd
    rw [hp] at hp'; cases hp'
    have hm : p ∈ M := List.mem_of_getElem? hp
    refine ⟨p, vs, j, jn, rfl, rfl, h1, by rw [h2.len]; exact hi, ?_⟩
    have e := (e1.trans e2).trans e3
    refine k M σ _ (R.step ?_ (S3.put hp (AtAll.set (At.mono (e2.trans e3) _ _ r1) jn h2)))
    rw [hid_upd hm]
    exact e
/-- l.append(e), l a list of the store -/
theorem w_app {tl : TE} {ta : TA} {d : PyData} {ds : List PyData} {l : Nat} (hl : Ev K tl ρ s (.loc l) s) (hv : Eva K ta ρ s [.d d] s1) (hd : s1[l]? = some ds) (hz : ds.length < 1000000)
    (k : W K M0 H0 F D.nx ρ (s1.set l (ds ++ [d]))) (hs : ∃ ds0, s[l]? = some ds0) : W K M0 H0 F (tDrop (tBM K "list" rAppend tl ta) D) ρ s := fun M σ H R =>
  hl M σ H R.so R.re _ fun w H1 e1 S1 r1 => by
    obtain ⟨p, hp, rfl⟩ := r1
    obtain ⟨ds0, hs⟩ := hs
    obtain ⟨p0, vs0, hp0, g1, _⟩ := S1.get hs
    rw [hp] at hp0; cases hp0
    refine ⟨.inl ⟨rfl, vs0, SqL.of g1⟩, hv M σ H1 S1 (R.re.mono e1) _ fun vs H2 e2 S2 r2 => ?_⟩
    cases r2 with
    | cons a r2 =>
      cases r2
      obtain ⟨p', ws, hp', h1, h2⟩ := S2.get hd
      rw [hp] at hp'; cases hp'
      refine ⟨p, ws, _, rfl, rfl, h1, by rw [h2.len]; exact Nat.lt_of_lt_of_le hz (by decide), ?_⟩
      refine k M σ _ (R.step ?_ (S2.put hp (h2.append (.cons a .nil))))
      rw [hid_upd (List.mem_of_getElem? hp)]
      exact e1.trans e2

/-- less is known -/
theorem w_weak (h : W K M0 H0 F P ρ' s) (hl : ρ'.length = ρ.length) (hw : ∀ (i : Nat) x, ρ'[i]? = some (some x) → ρ[i]? = some (some x)) : W K M0 H0 F P ρ s := fun M σ H R =>
  h M σ H ⟨R.ext, R.same, R.so, ⟨R.re.len.trans hl.symm, fun i x hx => R.re.at_ i x (hw i x hx)⟩, R.kp⟩
def leq : En → En → Bool
  | [], [] => true
  | none :: l, _ :: m => leq l m
  | _, _ => false
/-- the store's last list is no more written: it is data from here on -/
def noLoc (k : Nat) : En → Prop
  | [] => True
  | some (.loc j) :: r => j ≠ k ∧ noLoc k r
  | _ :: r => noLoc k r
theorem noLoc_at {k : Nat} : ∀ {ρ : En}, noLoc k ρ → ∀ (i j : Nat), ρ[i]? = some (some (.loc j)) → j ≠ k
  | some (.loc j) :: r, h, 0, j', e => by
    cases e
    exact h.1
  | some (.loc j) :: r, h, i + 1, j', e => noLoc_at (ρ := r) h.2 i j' e
  | some (.d _) :: r, h, i + 1, j', e => noLoc_at (ρ := r) h i j' e
  | some (.scr _) :: r, h, i + 1, j', e => noLoc_at (ρ := r) h i j' e
  | none :: r, h, i + 1, j', e => noLoc_at (ρ := r) h i j' e
  | some (.d _) :: r, h, 0, j', e => by cases e
  | some (.scr _) :: r, h, 0, j', e => by cases e
  | none :: r, h, 0, j', e => by cases e
theorem Rl.cut {p : Addr} {ds : List PyData} (R : Rl K M0 H0 F (M ++ [p]) (s ++ [ds]) ρ σ H) (hM : M0.length ≤ M.length) (hρ : noLoc M.length ρ) : Rl K M0 H0 F M s ρ σ H := by
  obtain ⟨N, e, hN⟩ := R.ext
  have hsl : s.length = M.length := by
    have := R.so.len
    simp at this
    exact this
  have hNe : ∃ N', M = M0 ++ N' ∧ ∀ p ∈ N', H0 p = none := by
    have e1 : M = (M0 ++ N).dropLast := by rw [← e, List.dropLast_concat]
    have n0 : N ≠ [] := fun z => by
      subst z
      have := congrArg List.length e
      simp at this
      omega
    refine ⟨N.dropLast, by rw [e1, List.dropLast_append_of_ne_nil n0], fun q hq => hN q (List.dropLast_subset N hq)⟩
  have sub : Same (hid (M ++ [p]) H) (hid M H) := hid_sub fun a m => List.mem_append_left _ m
  refine ⟨hNe, R.same, R.so.cut hsl, ⟨R.re.len, fun i x hx => ?_⟩, fun q hq => At.mono sub _ _ (R.kp q hq)⟩
  obtain ⟨v, h1, h2⟩ := R.re.at_ i x hx
  refine ⟨v, h1, ?_⟩
  cases x with
  | d d => exact At.mono sub d v h2
  | scr ns => obtain ⟨a, h3, h4⟩ := h2; exact ⟨a, h3, sub.seq h4⟩
  | loc k =>
    obtain ⟨q, h3, h4⟩ := h2
    refine ⟨q, ?_, h4⟩
    have ne := noLoc_at hρ i k hx
    have hk := (List.getElem?_eq_some_iff.mp h3).1
    simp at hk
    rw [List.getElem?_append_left (by omega)] at h3
    exact h3
theorem w_cut {ds : List PyData} (k : W K M0 H0 F P ρ' s) (hM : M0.length ≤ s.length) (hρ : noLoc s.length ρ') (hl : ρ'.length = ρ.length) (hw : ∀ (i : Nat) x, ρ'[i]? = some (some x) → ρ[i]? = some (some x)) : W K M0 H0 F P ρ (s ++ [ds]) := w_weak (fun M σ H R => by
  have hl := R.so.len
  simp at hl
  have hne : M ≠ [] := fun z => by subst z; simp at hl
  obtain ⟨M', p, rfl⟩ : ∃ M' p, M = M' ++ [p] := ⟨M.dropLast, M.getLast hne, (List.dropLast_concat_getLast hne).symm⟩
  simp at hl
  exact k M' σ H (R.cut (by omega) (by rw [← hl]; exact hρ))) hl hw
theorem w_freeze {ds : List PyData} (hn : ρ[n]? = some (some (.loc s.length))) (k : W K M0 H0 F P (ρ.set n (some (.d (.list ds)))) s) (hM : M0.length ≤ s.length) (hρ : noLoc s.length (ρ.set n (some (.d (.list ds))))) : W K M0 H0 F P ρ (s ++ [ds]) := fun M σ H R => by
  have hl := R.so.len
  simp at hl
  have hne : M ≠ [] := fun z => by subst z; simp at hl
  obtain ⟨M', p, rfl⟩ : ∃ M' p, M = M' ++ [p] := ⟨M.dropLast, M.getLast hne, (List.dropLast_concat_getLast hne).symm⟩
  simp at hl
  obtain ⟨v, h1, q, h2, rfl⟩ := R.re.at_ n _ hn
  have hq : q = p := by
    rw [hl] at h2
    simp at h2
    exact h2.symm
  subst hq
  obtain ⟨vs, g1, g2⟩ := R.so.at_ M'.length q ds (by simp) (by rw [← hl]; simp)
  -- ρ with the slot forgotten, then set anew
  have R0 : Rl K M0 H0 F (M' ++ [q]) (s ++ [ds]) (ρ.set n none) σ H := ⟨R.ext, R.same, R.so, ⟨by simpa using R.re.len, fun i x hx => by
    by_cases c : i = n
    · subst c
      by_cases hj : i < ρ.length
      · rw [List.getElem?_set_self hj] at hx; cases hx
      · rw [List.getElem?_eq_none (by simpa using hj)] at hx; cases hx
    · rw [List.getElem?_set_ne (Ne.symm c)] at hx
      exact R.re.at_ i x hx⟩, R.kp⟩
  have nl : ∀ {l : En} {n : Nat} {d : PyData} {k : Nat}, noLoc k (l.set n (some (.d d))) → noLoc k (l.set n none) := fun {l} => by
    induction l with
    | nil => intro n d k h; exact h
    | cons a l ih =>
      intro n d k h
      cases n with
      | zero => exact h
      | succ n =>
        cases a with
        | none => exact ih (n := n) (d := d) h
        | some a =>
          cases a with
          | d _ => exact ih (n := n) (d := d) h
          | scr _ => exact ih (n := n) (d := d) h
          | loc j => exact ⟨h.1, ih (n := n) (d := d) h.2⟩
  have R1 := R0.cut (by omega) (by rw [← hl]; exact nl hρ)
  have hqM : q ∉ M' := fun m => (List.nodup_append.mp R.so.nd).2.2 q m q (by simp) rfl
  have a : RX K M' H (.ref q) (.d (.list ds)) := .lst (by rw [hid_out hqM]; exact g1) (AtAll.mono (hid_sub fun a m => List.mem_append_left _ m) ds vs g2)
  have R2 := R1.set (n := n) a
  rw [List.set_set] at R2
  have es : σ.set n (some (.ref q)) = σ := by
    refine List.ext_getElem? fun i => ?_
    by_cases c : n = i
    · subst c
      rw [List.getElem?_set_self (List.getElem?_eq_some_iff.mp h1).1, h1]
    · rw [List.getElem?_set_ne c]
  rw [es] at R2
  exact k M' σ H R2

/-! ### loops -/
theorem Rl.more {v : V} {d : PyData} (R : Rl K M0 H0 F M s ρ σ H) (r : At K (hid M H) v d) : Rl K M0 H0 ((v, d) :: F) M s ρ σ H := ⟨R.ext, R.same, R.so, R.re, fun q hq => by
  rcases List.mem_cons.mp hq with rfl | hq
  · exact r
  · exact R.kp q hq⟩
theorem Rl.less {q : V × PyData} (R : Rl K M0 H0 (q :: F) M s ρ σ H) : Rl K M0 H0 F M s ρ σ H := ⟨R.ext, R.same, R.so, R.re, fun p hp => R.kp p (List.mem_cons_of_mem _ hp)⟩
theorem w_less {q : V × PyData} (h : W K M0 H0 F P ρ s) : W K M0 H0 (q :: F) P ρ s := fun M σ H R => h M σ H R.less
/-- for x in xs, xs data -/
theorem w_forL {tl : TE} {ds : List PyData} {tb : TS} (h : Ev K tl ρ s (.d (.list ds)) s1) (I : Nat → En → Sto → Prop) (h0 : I 0 ρ s1)
    (hs : ∀ v (i : Nat) d ρ' s' (N : L2.St → Hp → Prop), ds[i]? = some d → I i ρ' s' → (∀ ρ2 s2, I (i + 1) ρ2 s2 → W K M0 H0 ((v, .list ds) :: F) N ρ2 s2) → W K M0 H0 ((v, .list ds) :: F) (tb { D with nx := N, ct := N, bk := D.nx }) (ρ'.set n (some (.d d))) s')
    (hd : ∀ ρ' s', I ds.length ρ' s' → W K M0 H0 F D.nx ρ' s') : W K M0 H0 F (tFor (iList K tl) (gName n) tb D) ρ s := fun M σ H R => by
  refine h M σ H R.so R.re _ fun v H1 e S r => ?_
  replace R := (R.step e S).more r
  clear r S e
  generalize H1 = H at R ⊢
  have hv := R.kp _ (List.mem_cons_self ..)
  have hv0 : At K (hid M H) v (.list ds) := hv
  cases hv0 with
  | @lst a xs _ ha hxs =>
    refine ⟨a, rfl, ⟨xs, SqL.of (hid_some ha).2⟩, fun i m σ H => m = ds.length - i ∧ i ≤ ds.length ∧ ∃ M s ρ, Rl K M0 H0 ((.ref a, .list ds) :: F) M s ρ σ H ∧ I i ρ s, ⟨_, rfl, Nat.zero_le _, M, _, _, R, h0⟩, ?_⟩
    rintro i m σ H ⟨rfl, hi, M, s, ρ, R, hI⟩
    have hv := R.kp _ (List.mem_cons_self ..)
    have hv0 : At K (hid M H) (.ref a) (.list ds) := hv
    cases hv0 with
    | @lst _ xs _ ha hxs =>
      have hS : SqL K H a xs := SqL.of (hid_some ha).2
      by_cases c : i < ds.length
      · obtain ⟨w, hw, rw_⟩ := hxs.get (List.getElem?_eq_getElem c)
        refine .inr ⟨⟨xs, w, hS, hw⟩, fun σ H => ∃ M s ρ, Rl K M0 H0 ((.ref a, .list ds) :: F) M s ρ σ H ∧ I (i + 1) ρ s, fun σ' H' ⟨M, s, ρ, R, hI⟩ => ⟨ds.length - (i + 1), by omega, rfl, by omega, M, s, ρ, R, hI⟩, fun x H' ⟨e, hx⟩ => ?_⟩
        subst e
        have ex : x = w := Option.some.inj ((hx xs hS).symm.trans hw)
        subst ex
        exact hs (.ref a) i _ ρ s _ (List.getElem?_eq_getElem c) hI (fun ρ2 s2 h2 M σ H R => ⟨M, s2, ρ2, R, h2⟩) M _ _ (R.set (x := .d ds[i]) rw_)
      · have e : i = ds.length := by omega
        subst e
        exact .inl ⟨⟨xs, hS, by rw [hxs.len]; exact Nat.le_refl _⟩, hd ρ s hI M σ H R.less⟩
/-- for k in range(n) -/
theorem w_forR {ta : TA} {tb : TS} {c : Nat} (h : Eva K ta ρ s [.d (.int (c : Int))] s1) (hc : c < 2 ^ 60) (I : Nat → En → Sto → Prop) (h0 : I 0 ρ s1)
    (hs : ∀ (i : Nat) ρ' s' (N : L2.St → Hp → Prop), i < c → I i ρ' s' → (∀ ρ2 s2, I (i + 1) ρ2 s2 → W K M0 H0 F N ρ2 s2) → W K M0 H0 F (tb { D with nx := N, ct := N, bk := D.nx }) (ρ'.set n (some (.d (.int (i : Int))))) s')
    (hd : ∀ ρ' s', I c ρ' s' → W K M0 H0 F D.nx ρ' s') : W K M0 H0 F (tFor (iRng1 ta) (gName n) tb D) ρ s := fun M σ H R => by
  refine h M σ H R.so R.re _ fun vs H1 e S r => ?_
  cases r with
  | cons r1 r =>
    cases r
    cases r1
    refine ⟨(c : Int), rfl, by omega, by omega, ?_⟩
    rw [Int.toNat_natCast]
    refine ⟨fun i m σ H => m = c - i ∧ i ≤ c ∧ ∃ M s ρ, Rl K M0 H0 F M s ρ σ H ∧ I i ρ s, ⟨_, rfl, Nat.zero_le _, M, _, _, R.step e S, h0⟩, ?_⟩
    rintro i m σ H ⟨rfl, hi, M, s, ρ, R, hI⟩
    by_cases cc : i < c
    · refine .inr ⟨cc, fun σ H => ∃ M s ρ, Rl K M0 H0 F M s ρ σ H ∧ I (i + 1) ρ s, fun σ' H' ⟨M, s, ρ, R, hI⟩ => ⟨c - (i + 1), by omega, rfl, by omega, M, s, ρ, R, hI⟩, fun x H' ⟨e, hx⟩ => ?_⟩
      subst e
      subst hx
      rw [Int.zero_add]
      exact hs i ρ s _ cc hI (fun ρ2 s2 h2 M σ H R => ⟨M, s2, ρ2, R, h2⟩) M _ _ (R.set (x := .d (.int (i : Int))) (.int _))
    · have e : i = c := by omega
      subst e
      exact .inl ⟨Nat.le_refl _, hd ρ s hI M σ H R⟩
theorem w_while {tc : TT} {tb : TS} (I : Nat → En → Sto → Prop) (h0 : ∃ m, I m ρ s)
    (hs : ∀ m ρ' s', I m ρ' s' → ∃ b s2, EvT K tc ρ' s' b s2 ∧ (b = true → ∀ N : L2.St → Hp → Prop, (∀ m' ρ2 s3, m' < m → I m' ρ2 s3 → W K M0 H0 F N ρ2 s3) → W K M0 H0 F (tb { D with nx := N, ct := N, bk := D.nx }) ρ' s2) ∧ (b = false → W K M0 H0 F D.nx ρ' s2)) :
    W K M0 H0 F (tWhile tc tb D) ρ s := fun M σ H R => by
  obtain ⟨m, hm⟩ := h0
  refine ⟨fun m σ H => ∃ M s ρ, Rl K M0 H0 F M s ρ σ H ∧ I m ρ s, ⟨m, M, s, ρ, R, hm⟩, ?_⟩
  rintro m σ H ⟨M, s, ρ, R, hI⟩
  obtain ⟨b, s2, hT, h1, h2⟩ := hs m ρ s hI
  refine hT M σ H R.so R.re _ fun H1 e S => ?_
  cases b with
  | true => exact ⟨fun σ H => ∃ m', m' < m ∧ ∃ M s ρ, Rl K M0 H0 F M s ρ σ H ∧ I m' ρ s, fun σ' H' h => h, h1 rfl _ (fun m' ρ2 s3 hlt h3 M σ H R => ⟨m', hlt, M, s3, ρ2, R, h3⟩) M σ H1 (R.step e S)⟩
  | false => exact h2 rfl M σ H1 (R.step e S)
end
end Pw
namespace Pw
open PySem L2
section
variable {K : Fg} {ρ ρ' : En} {s s1 s2 s3 : Sto} {x y z : Dx} {xs ys zs : List Dx} {ta tb te : TE} {tas tks : TA} {t u : TT} {r r' : R2} {b c : Bool} {i j k : Int} {X : Cx} {n m : Nat}

/-! ## calls of defs -/
abbrev Gr := List Dx → Sto → Dx → Sto → Prop
abbrev GrN := List Dx → Sto → List PyData → Sto → Prop
def spF (K : Fg) (R : Gr) : Sp := fun vs H Q _ => ∃ M xs s x s', R xs s x s' ∧ So K M s H ∧ RXs K M H vs xs ∧ Okk K M s' x H Q
def spN (K : Fg) (R : GrN) : Sp := fun vs H Q _ => ∃ M xs s ds s', R xs s ds s' ∧ So K M s H ∧ RXs K M H vs xs ∧
  ∀ p H', H p = none → Same (hid M H) (hid M H') → So K (M ++ [p]) (s' ++ [ds]) H' → So K M s' H' → Q (.ref p) H'
theorem RXs.len {M : List Addr} {H : Hp} : ∀ {vs : List V} {xs : List Dx}, RXs K M H vs xs → vs.length = xs.length
  | _, _, .nil => rfl
  | _, _, .cons _ t => congrArg Nat.succ t.len
theorem RXs.append {M : List Addr} {H : Hp} : ∀ {vs ws : List V} {xs ys : List Dx}, RXs K M H vs xs → RXs K M H ws ys → RXs K M H (vs ++ ws) (xs ++ ys)
  | _, _, _, _, .nil, s => s
  | _, _, _, _, .cons h t, s => .cons h (t.append s)
theorem spF_len {R : Gr} {l : Nat} (h : ∀ xs s x s', R xs s x s' → xs.length = l) : ∀ vs H Q E, spF K R vs H Q E → vs.length = l := fun vs H Q E ⟨_, _, _, _, _, hR, _, hr, _⟩ => hr.len.trans (h _ _ _ _ hR)
theorem spN_len {R : GrN} {l : Nat} (h : ∀ xs s x s', R xs s x s' → xs.length = l) : ∀ vs H Q E, spN K R vs H Q E → vs.length = l := fun vs H Q E ⟨_, _, _, _, _, hR, _, hr, _⟩ => hr.len.trans (h _ _ _ _ hR)
theorem ev_call {R : Gr} {E : XK} (ha : Eva K tas ρ s xs s1) (hR : R xs s1 z s2) : Ev K (tCall (spF K R) [] E tas) ρ s z s2 := fun M σ H S Re Q q =>
  ha M σ H S Re _ fun vs H1 e1 S1 r1 => ⟨M, xs, s1, z, s2, hR, S1, by rw [List.append_nil]; exact r1, q.step e1⟩
/-- .. with a default -/
theorem ev_callD {R : Gr} {E : XK} {dvs : List V} (ha : Eva K tas ρ s xs s1) (hd : ∀ M H, RXs K M H dvs ys) (hR : R (xs ++ ys) s1 z s2) : Ev K (tCall (spF K R) dvs E tas) ρ s z s2 := fun M σ H S Re Q q =>
  ha M σ H S Re _ fun vs H1 e1 S1 r1 => ⟨M, _, s1, z, s2, hR, S1, r1.append (hd M H1), q.step e1⟩
theorem evn_call {R : GrN} {E : XK} {ds : List PyData} (ha : Eva K tas ρ s xs s1) (hR : R xs s1 ds s2) : EvN K (tCall (spN K R) [] E tas) ρ s ds s2 := fun M σ H S Re Q q =>
  ha M σ H S Re _ fun vs H1 e1 S1 r1 => ⟨M, xs, s1, ds, s2, hR, S1, by rw [List.append_nil]; exact r1, fun p H2 hp e2 => q p H2 (by
    cases hq : H p with
    | none => rfl
    | some o =>
      have := hid_some (e1 p o (by rw [hid_out (S1.free hp)]; exact hq))
      rw [hp] at this; cases this.2) (e1.trans e2)⟩
/-- f(k = v, ..) by keywords alone -/
theorem ev_callK {R : Gr} {E : XK} {gV : List V → List V → List V} {l : Nat} (hk : Eva K tks ρ s ys s1) (hl : ys.length = l) (hg : ∀ M H zs, RXs K M H zs ys → RXs K M H (gV [] zs) xs) (hR : R xs s1 z s2) :
    Ev K (tCallN 0 l (spF K R) gV E tNil tks) ρ s z s2 := fun M σ H S Re Q q =>
  hk M σ H S Re _ fun zs H1 e1 S1 r1 => ⟨rfl, r1.len.trans hl, M, xs, s1, z, s2, hR, S1, hg M H1 zs r1, q.step e1⟩
section
variable {CX : CXT} {l kk : Nat} {f : Addr} {fd : FuncData} {ps ks : List Str} {sp : Sp} {E : XK} {fx : Str} {p pos : Pos} {kws : List Keyword} {tk : TA} {g : List Value → List Value → List Value} {gV : List V → List V → List V}
theorem pe_kw (G : FnOk X.prog X.w X.K X.mg X.base CX kk f fd ps sp) (hr : Room kk X.A) (hg : Gl X fx) (hm : X.mg fx = some (.ref f)) (hk : PySem.W.keepIn X.K (.ref f) = true) (hb : KBn X.K fd ps 0 ks g gV) (hx : Passes CX X E) (hkw : PK X kws tk)
    (hall : (backToKw pos (keywordEach kws X.env)).all (·.1.isSome) = true := by rfl)
    (hks : (backToKw pos (keywordEach kws X.env)).filterMap (·.1) = ks := by rfl)
    (hdb : (fx == ("__debug__" : Str)) = false := by decide)
    (hpl : ((backTo pos (starEach [] X.env)).any (·.1) || (backToKw pos (keywordEach kws X.env)).any (·.1.isNone)) = false := by rfl) :
    PE X (.Call (.Name fx p) [] kws pos) (tCallN 0 ks.length sp gV E tNil tk) := ⟨fun pins s σ H Q I h => by
  refine wpAny_Call_Name_kw (ld_glob I hg hm ?_ hdb)
  refine PySem.W.callWith_KW0 (h₀ := X.base) I.ok.mod.kin hk hall ?_ hpl
  refine thn (hkw.run pos pins s σ H _ I h) fun ws s2 ⟨zs, H2, I2, rz, l1, l2, q2⟩ => ⟨I2.kIn, ?_⟩
  rw [hks]
  exact run_fnN G hr hb hx I2 (us := []) (vs := []) .nil rz rfl l2 q2⟩
end
/-- a def without defaults, called by keywords alone -/
theorem kb_of {qual nm : Str} {st : Stmt} {f : Addr} {fd : FuncData} {ps ks : List Str} {g : {α : Type} → List α → List α} (G : Fun K nm qual st f fd)
    (hrel : ∀ {zs : List V} {ws : List Value}, zs.length = ks.length → Vals zs ws → Vals (g zs) (g ws))
    (h : ∀ (kV doc pm : Value) (an : Option Addr) (cdv ct : Value) (ws : List Value), ws.length = ks.length → bindArgs (PySem.W.fnOf nm qual (defArgs st) (defBody st) (defScope st) .none kV doc pm an cdv ct) ⟨[], ks.zip ws⟩ = pure (ps.zip (g ws)))
    (hd : ∀ {zs : List V} {ws : List Value}, zs.length ≠ ks.length → Vals zs ws → Vals (g zs) (g ws)) : KBn K fd ps 0 ks (fun _ ws => g ws) (fun _ zs => g zs) := by
  obtain ⟨oc, od, kV, doc, pm, an, cdv, ct, osl, rfl, lk, hcd⟩ := G.ex
  refine ⟨fun s us ws X l1 l2 => ?_, fun {vs us zs ws} _ r => ?_⟩
  · have e : us = [] := List.eq_nil_of_length_eq_zero l1
    subst e
    exact .of_eq (h kV doc pm an cdv ct ws l2)
  · by_cases c : zs.length = ks.length
    · exact hrel c r
    · exact hd c r

/-! ## comprehensions -/
theorem lc_any {J : It} {N : Nat} {g : TG} {tt : TT} {te : TE} {vs : List Nat} {σ : L2.St} {H1 : Hp} {A : Addr} {Qd : Hp → Prop} (Pv : Nat → Hp → Prop) (h0 : Pv 0 (upd H1 A (.lst [])))
    (hgo : ∀ i H, i < N → Pv i H → J.go i H) (hst : ∀ H, Pv N H → J.stop N H)
    (hs : ∀ i x H H', i < N → Pv i H → J.yld i H x H' → g x (wipe σ vs) H' fun σ2 H2 => wipe σ2 vs = wipe σ vs ∧ tt σ2 H2 fun b H3 =>
      if b = true then te σ2 H3 fun y H4 => ∃ acc, H4 A = some (.lst acc) ∧ acc.length < sizeLine ∧ Pv (i + 1) (upd H4 A (.lst (acc ++ [y]))) else Pv (i + 1) H3) (hd : ∀ H, Pv N H → Qd H) :
    ∃ Wf : Nat → Nat → Hp → Prop, (∃ m, Wf 0 m (upd H1 A (.lst []))) ∧ ∀ i m H, Wf i m H →
      (J.stop i H ∧ Qd H) ∨ (J.go i H ∧ ∃ Nx : Hp → Prop, (∀ H', Nx H' → ∃ m', m' < m ∧ Wf (i + 1) m' H') ∧ ∀ x H', J.yld i H x H' → g x (wipe σ vs) H' fun σ2 H2 => wipe σ2 vs = wipe σ vs ∧ tt σ2 H2 fun b H3 =>
        if b = true then te σ2 H3 fun y H4 => ∃ acc, H4 A = some (.lst acc) ∧ acc.length < sizeLine ∧ Nx (upd H4 A (.lst (acc ++ [y]))) else Nx H3) := by
  refine ⟨fun i m H => m = N - i ∧ i ≤ N ∧ Pv i H, ⟨N, by simp, Nat.zero_le _, h0⟩, ?_⟩
  rintro i m H ⟨rfl, hi, hp⟩
  by_cases c : i < N
  · exact .inr ⟨hgo i H c hp, Pv (i + 1), fun H' q => ⟨N - (i + 1), by omega, rfl, c, q⟩, fun x H' y => hs i x H H' c hp y⟩
  · have e : i = N := by omega
    subst e
    exact .inl ⟨hst H hp, hd H hp⟩
/-- what holds between two items: the new list at A stands behind the store -/
structure Lc (K : Fg) (M : List Addr) (H1 : Hp) (S : Nat → Sto) (es : List PyData) (A : Addr) (σ : L2.St) (ρ : En) (src : List (V × PyData)) (i : Nat) (H : Hp) : Prop where
  so : So K (M ++ [A]) (S i ++ [es.take i]) H
  sm : Same (hid M H1) (hid M H)
  re : RE K (M ++ [A]) H σ ρ
  sr : ∀ q ∈ src, At K (hid (M ++ [A]) H) q.1 q.2
variable {M : List Addr} {H H1 H2 : Hp} {S : Nat → Sto} {es ds : List PyData} {A : Addr} {σ : L2.St} {src : List (V × PyData)} {tl : TE}
theorem Lc.start (hS : So K M (S 0) H1) (hR : RE K M H1 σ ρ) (hs : ∀ q ∈ src, At K (hid M H1) q.1 q.2) (hA : H1 A = none) : Lc K M H1 S es A σ ρ src 0 (upd H1 A (.lst [])) := by
  have e0 : Same (hid M H1) (hid (M ++ [A]) (upd H1 A (.lst []))) := fun a o h => by
    obtain ⟨c, h⟩ := hid_some h
    have ne := ne_of_none h hA
    rw [hid_out (by simp [c, ne]), upd_ne ne]
    exact h
  refine ⟨by rw [List.take_zero]; exact hS.add hA .nil, hid_new hA, ⟨hR.len, fun i x hx => ?_⟩, fun q hq => At.mono e0 _ _ (hs q hq)⟩
  obtain ⟨v, h1, h2⟩ := hR.at_ i x hx
  exact ⟨v, h1, h2.up e0 fun k p hk => get_app k p hk⟩
theorem Lc.item {i : Nat} {e : PyData} {v : V} (L : Lc K M H1 S es A σ ρ src i H) (hA : H1 A = none) (he : es[i]? = some e) (e2 : Same (hid (M ++ [A]) H) (hid (M ++ [A]) H2)) (hS : So K (M ++ [A]) (S (i + 1) ++ [es.take i]) H2) (r : RX K (M ++ [A]) H2 v (.d e)) (hz : es.length ≤ 1000000) :
    ∃ acc, H2 A = some (.lst acc) ∧ acc.length < sizeLine ∧ Lc K M H1 S es A σ ρ src (i + 1) (upd H2 A (.lst (acc ++ [v]))) := by
  have hsl : (S (i + 1)).length = M.length := by
    have := hS.len
    simp at this
    exact this
  have gM : (M ++ [A])[M.length]? = some A := by simp
  obtain ⟨acc, h1, h2⟩ := hS.at_ M.length A (es.take i) gM (by rw [← hsl]; simp)
  have hi : i < es.length := (List.getElem?_eq_some_iff.mp he).1
  refine ⟨acc, h1, ?_, ?_⟩
  · rw [h2.len, List.length_take]
    exact Nat.lt_of_le_of_lt (Nat.le_trans (Nat.min_le_right _ _) hz) (by decide)
  · have hAm : A ∈ M ++ [A] := by simp
    have ht : es.take (i + 1) = es.take i ++ [e] := by rw [List.take_add_one, he]; rfl
    have e3 : hid (M ++ [A]) (upd H2 A (.lst (acc ++ [v]))) = hid (M ++ [A]) H2 := hid_upd hAm
    refine ⟨?_, ?_, ?_, ?_⟩
    · have q := hS.put gM (h2.append (.cons r .nil))
      rw [← hsl, List.set_append_right _ _ (Nat.le_refl _), Nat.sub_self] at q
      rw [ht]
      exact q
    · intro a o h
      obtain ⟨c, h'⟩ := hid_some (L.sm a o h)
      have ne : a ≠ A := ne_of_none (hid_some h).2 hA
      have := e2 a o (by rw [hid_out (by simp [c, ne])]; exact h')
      rw [hid_out c, upd_ne ne]
      exact (hid_some this).2
    · refine L.re.mono ?_
      rw [e3]
      exact e2
    · intro q hq
      rw [e3]
      exact At.mono e2 _ _ (L.sr q hq)
theorem Lc.done {N : Nat} {Q : VK} (L : Lc K M H1 S es A σ ρ src N H) (hA : H1 A = none) (hN : es.length = N) (e0 : Same (hid M H2) (hid M H1)) (hA2 : H2 A = none)
    (q : ∀ p H', H2 p = none → Same (hid M H2) (hid M H') → So K (M ++ [p]) (S N ++ [es]) H' → So K M (S N) H' → Q (.ref p) H') : Q (.ref A) H := by
  have e : es.take N = es := by rw [← hN]; exact List.take_length
  have h := L.so
  rw [e] at h
  have hl := h.len
  simp at hl
  exact q A H hA2 (e0.trans L.sm) h (h.cut hl)
theorem wipe1 {σ : L2.St} {n : Nat} {v : V} : wipe ((wipe σ [n]).set n (some v)) [n] = wipe σ [n] := by
  show ((σ.set n none).set n (some v)).set n none = σ.set n none
  rw [List.set_set, List.set_set]
theorem wipe1s {σ : L2.St} {n : Nat} {v : V} : (wipe σ [n]).set n (some v) = σ.set n (some v) := by
  show (σ.set n none).set n (some v) = _
  rw [List.set_set]
theorem back_none (e1 : Same (hid M H) (hid M H1)) (hS : So K M s H1) (hA : H1 A = none) : H A = none := by
  cases hq : H A with
  | none => rfl
  | some o =>
    have := hid_some (e1 A o (by rw [hid_out (hS.free hA)]; exact hq))
    rw [hA] at this; cases this.2
/-- [e for x in xs], xs a list -/
theorem evn_lcL (h : Ev K tl ρ s (.d (.list ds)) (S 0)) (hl : es.length = ds.length) (hz : es.length ≤ 1000000)
    (he : ∀ (i : Nat) d e, ds[i]? = some d → es[i]? = some e → Ev K te (ρ.set n (some (.d d))) (S i ++ [es.take i]) (.d e) (S (i + 1) ++ [es.take i])) : EvN K (tLc (iList K tl) (gName n) tYes te [n]) ρ s es (S ds.length) := fun M σ H So0 Re Q q => by
  refine h M σ H So0 Re _ fun v H1 e1 S1 r1 => ?_
  have r0 : At K (hid M H1) v (.list ds) := r1
  cases r0 with
  | @lst a vs _ ha hvs =>
    refine ⟨a, rfl, ⟨vs, SqL.of (hid_some ha).2⟩, fun A hA => ?_⟩
    have src : ∀ {i H}, Lc K M H1 S es A σ ρ [(.ref a, .list ds)] i H → ∃ vs, SqL K H a vs ∧ AtAll K (hid (M ++ [A]) H) vs ds := fun {i H} L => by
      have := L.sr _ (List.mem_cons_self ..)
      have h2 : At K (hid (M ++ [A]) H) (.ref a) (.list ds) := this
      cases h2 with
      | lst h3 h4 => exact ⟨_, SqL.of (hid_some h3).2, h4⟩
    refine lc_any (J := Itl K a) (N := ds.length) (Lc K M H1 S es A σ ρ [(.ref a, .list ds)]) (Lc.start S1 (Re.mono e1) (fun q hq => ?_) hA) (fun i H hi L => ?_) (fun H L => ?_) (fun i x H H' hi L hy => ?_) (fun H L => L.done hA hl e1 (back_none e1 S1 hA) q)
    · simp at hq
      subst hq
      exact r1
    · obtain ⟨vs, h1, h2⟩ := src L
      obtain ⟨w, hw, _⟩ := h2.get (List.getElem?_eq_getElem hi)
      exact ⟨vs, w, h1, hw⟩
    · obtain ⟨vs, h1, h2⟩ := src L
      exact ⟨vs, h1, by rw [h2.len]; exact Nat.le_refl _⟩
    · obtain ⟨e, hx⟩ := hy
      subst e
      obtain ⟨vs, h1, h2⟩ := src L
      obtain ⟨w, hw, rw_⟩ := h2.get (List.getElem?_eq_getElem hi)
      have ex : x = w := Option.some.inj ((hx vs h1).symm.trans hw)
      subst ex
      refine ⟨wipe1, ?_⟩
      unfold tYes
      dsimp only
      rw [if_pos rfl, wipe1s]
      have hie : i < es.length := by rw [hl]; exact hi
      refine he i _ _ (List.getElem?_eq_getElem hi) (List.getElem?_eq_getElem hie) (M ++ [A]) _ _ L.so (L.re.set (x := .d _) rw_) _ fun y H4 e4 S4 r4 => ?_
      exact L.item hA (List.getElem?_eq_getElem hie) e4 S4 r4 hz
/-- xs a tuple -/
theorem evn_lcT (h : Ev K tl ρ s (.d (.tuple ds)) (S 0)) (hl : es.length = ds.length) (hz : es.length ≤ 1000000)
    (he : ∀ (i : Nat) d e, ds[i]? = some d → es[i]? = some e → Ev K te (ρ.set n (some (.d d))) (S i ++ [es.take i]) (.d e) (S (i + 1) ++ [es.take i])) : EvN K (tLc (iTup K tl) (gName n) tYes te [n]) ρ s es (S ds.length) := fun M σ H So0 Re Q q => by
  refine h M σ H So0 Re _ fun v H1 e1 S1 r1 => ?_
  have r0 : At K (hid M H1) v (.tuple ds) := r1
  cases r0 with
  | @tup a vs _ ha hvs =>
    refine ⟨a, rfl, ⟨vs, same_t hid_same ha⟩, fun A hA => ?_⟩
    have src : ∀ {i H}, Lc K M H1 S es A σ ρ [(.ref a, .tuple ds)] i H → ∃ vs, SqT K H a vs ∧ AtAll K (hid (M ++ [A]) H) vs ds := fun {i H} L => by
      have := L.sr _ (List.mem_cons_self ..)
      have h2 : At K (hid (M ++ [A]) H) (.ref a) (.tuple ds) := this
      cases h2 with
      | tup h3 h4 => exact ⟨_, same_t hid_same h3, h4⟩
    refine lc_any (J := Itt K a) (N := ds.length) (Lc K M H1 S es A σ ρ [(.ref a, .tuple ds)]) (Lc.start S1 (Re.mono e1) (fun q hq => ?_) hA) (fun i H hi L => ?_) (fun H L => ?_) (fun i x H H' hi L hy => ?_) (fun H L => L.done hA hl e1 (back_none e1 S1 hA) q)
    · simp at hq
      subst hq
      exact r1
    · obtain ⟨vs, h1, h2⟩ := src L
      obtain ⟨w, hw, _⟩ := h2.get (List.getElem?_eq_getElem hi)
      exact ⟨vs, w, h1, hw⟩
    · obtain ⟨vs, h1, h2⟩ := src L
      exact ⟨vs, h1, by rw [h2.len]; exact Nat.le_refl _⟩
    · obtain ⟨e, hx⟩ := hy
      subst e
      obtain ⟨vs, h1, h2⟩ := src L
      obtain ⟨w, hw, rw_⟩ := h2.get (List.getElem?_eq_getElem hi)
      have ex : x = w := Option.some.inj ((hx vs h1).symm.trans hw)
      subst ex
      refine ⟨wipe1, ?_⟩
      unfold tYes
      dsimp only
      rw [if_pos rfl, wipe1s]
      have hie : i < es.length := by rw [hl]; exact hi
      refine he i _ _ (List.getElem?_eq_getElem hi) (List.getElem?_eq_getElem hie) (M ++ [A]) _ _ L.so (L.re.set (x := .d _) rw_) _ fun y H4 e4 S4 r4 => ?_
      exact L.item hA (List.getElem?_eq_getElem hie) e4 S4 r4 hz
theorem wipe2 {σ : L2.St} {n m : Nat} {v w : V} : wipe (((wipe σ [n, m]).set n (some v)).set m (some w)) [n, m] = wipe σ [n, m] := by
  show (((((σ.set m none).set n none).set n (some v)).set m (some w)).set m none).set n none = (σ.set m none).set n none
  refine List.ext_getElem? fun i => ?_
  simp only [List.getElem?_set, List.length_set]
  split <;> split <;> simp_all
theorem wipe2s {σ : L2.St} {n m : Nat} {v w : V} : ((wipe σ [n, m]).set n (some v)).set m (some w) = (σ.set n (some v)).set m (some w) := by
  show ((((σ.set m none).set n none).set n (some v)).set m (some w)) = _
  refine List.ext_getElem? fun i => ?_
  simp only [List.getElem?_set, List.length_set]
  split <;> split <;> simp_all
/-- [e for x, y in zip(xs, ys)]: two lists, or two tuples, of one length -/
theorem evn_lcZ {ta tb : TE} {fs : List PyData} {w : List PyData → PyData} (hw : w = PyData.list ∨ w = PyData.tuple) (h : Eva K (tCons ta (tCons tb tNil)) ρ s [.d (w ds), .d (w fs)] (S 0)) (hf : fs.length = ds.length) (hl : es.length = ds.length) (hz : es.length ≤ 1000000)
    (he : ∀ (i : Nat) d f e, ds[i]? = some d → fs[i]? = some f → es[i]? = some e → Ev K te ((ρ.set n (some (.d d))).set m (some (.d f))) (S i ++ [es.take i]) (.d e) (S (i + 1) ++ [es.take i])) :
    EvN K (tLc (RZ.iZipA K (tCons ta (tCons tb tNil))) (gTup K 2 (gCons (gName n) (gCons (gName m) gNil))) tYes te [n, m]) ρ s es (S ds.length) := fun M σ H So0 Re Q q => by
  unfold tLc RZ.iZipA
  refine h M σ H So0 Re _ fun vs H1 e1 S1 r1 => ?_
  cases r1 with
  | cons ra r1 =>
    cases r1 with
    | cons rb r1 =>
      cases r1
      -- the turn, once the pair is there
      have turn : ∀ {a b A T : Addr} {x y : V} {i : Nat} {H : Hp} {us ws : List V}, H1 A = none → (hi : i < ds.length) → Lc K M H1 S es A σ ρ [(.ref a, w ds), (.ref b, w fs)] i H → H T = none → AtAll K (hid (M ++ [A]) H) us ds → AtAll K (hid (M ++ [A]) H) ws fs → us[i]? = some x → ws[i]? = some y →
          gTup K 2 (gCons (gName n) (gCons (gName m) gNil)) (.ref T) (wipe σ [n, m]) (upd H T (.tup [x, y])) fun σ2 H2 => wipe σ2 [n, m] = wipe σ [n, m] ∧ tYes σ2 H2 fun bb H3 =>
            if bb = true then te σ2 H3 fun y H4 => ∃ acc, H4 A = some (.lst acc) ∧ acc.length < sizeLine ∧ Lc K M H1 S es A σ ρ [(.ref a, w ds), (.ref b, w fs)] (i + 1) (upd H4 A (.lst (acc ++ [y]))) else Lc K M H1 S es A σ ρ [(.ref a, w ds), (.ref b, w fs)] (i + 1) H3 := by
        intro a b A T x y i H us ws hA hi L hT au aw hx hy
        obtain ⟨x', hx', rx⟩ := au.get (List.getElem?_eq_getElem hi)
        have hif : i < fs.length := by rw [hf]; exact hi
        obtain ⟨y', hy', ry⟩ := aw.get (List.getElem?_eq_getElem hif)
        rw [hx] at hx'; cases hx'
        rw [hy] at hy'; cases hy'
        have hie : i < es.length := by rw [hl]; exact hi
        refine ⟨T, [x, y], rfl, SqT.of upd_same, rfl, x, [y], rfl, y, [], rfl, rfl, wipe2, ?_⟩
        unfold tYes
        dsimp only
        rw [if_pos rfl, wipe2s]
        have eT : Same (hid (M ++ [A]) H) (hid (M ++ [A]) (upd H T (.tup [x, y]))) := hid_new hT
        refine he i _ _ _ (List.getElem?_eq_getElem hi) (List.getElem?_eq_getElem hif) (List.getElem?_eq_getElem hie) (M ++ [A]) _ _ (L.so.new hT) (((L.re.mono eT).set (x := .d _) (At.mono eT _ _ rx)).set (x := .d _) (At.mono eT _ _ ry)) _ fun z H4 e4 S4 r4 => ?_
        have L2 : Lc K M H1 S es A σ ρ [(.ref a, w ds), (.ref b, w fs)] i (upd H T (.tup [x, y])) := by
          refine ⟨L.so.new hT, ?_, L.re.mono eT, fun q hq => At.mono eT _ _ (L.sr q hq)⟩
          exact L.sm.trans (hid_new hT)
        exact L2.item hA (List.getElem?_eq_getElem hie) e4 S4 r4 hz
      rcases hw with hw | hw
      · subst hw
        have ra' : At K (hid M H1) _ (.list ds) := ra
        have rb' : At K (hid M H1) _ (.list fs) := rb
        cases ra' with
        | @lst a us _ ha hus =>
          cases rb' with
          | @lst b ws _ hb hws =>
            refine ⟨a, b, us, ws, rfl, .inl ⟨SqL.of (hid_some ha).2, SqL.of (hid_some hb).2, fun A hA => ?_⟩⟩
            have src : ∀ {i H}, Lc K M H1 S es A σ ρ [(.ref a, .list ds), (.ref b, .list fs)] i H → ∃ us ws, SqL K H a us ∧ SqL K H b ws ∧ AtAll K (hid (M ++ [A]) H) us ds ∧ AtAll K (hid (M ++ [A]) H) ws fs := fun {i H} L => by
              have h1 : At K (hid (M ++ [A]) H) (.ref a) (.list ds) := L.sr _ (List.mem_cons_self ..)
              have h2 : At K (hid (M ++ [A]) H) (.ref b) (.list fs) := L.sr (.ref b, .list fs) (by simp)
              cases h1 with
              | lst h3 h4 =>
                cases h2 with
                | lst h5 h6 => exact ⟨_, _, SqL.of (hid_some h3).2, SqL.of (hid_some h5).2, h4, h6⟩
            refine lc_any (J := Itz K a b) (N := ds.length) (Lc K M H1 S es A σ ρ [(.ref a, .list ds), (.ref b, .list fs)]) (Lc.start S1 (Re.mono e1) (fun q hq => ?_) hA) (fun i H hi L => ?_) (fun H L => ?_) (fun i x H H' hi L hy => ?_) (fun H L => L.done hA hl e1 (back_none e1 S1 hA) q)
            · simp at hq
              rcases hq with hq | hq
              · subst hq; exact ra
              · subst hq; exact rb
            · obtain ⟨us, ws, h1, h2, h3, h4⟩ := src L
              obtain ⟨x, hx, _⟩ := h3.get (List.getElem?_eq_getElem hi)
              obtain ⟨y, hy, _⟩ := h4.get (List.getElem?_eq_getElem (show i < fs.length by rw [hf]; exact hi))
              exact ⟨us, ws, x, y, h1, h2, hx, hy⟩
            · obtain ⟨us, ws, h1, h2, h3, h4⟩ := src L
              exact ⟨us, ws, h1, h2, .inl (by rw [h3.len]; exact Nat.le_refl _)⟩
            · obtain ⟨T, x1, y1, rfl, hT, rfl, f1, f2⟩ := hy
              obtain ⟨us, ws, h1, h2, h3, h4⟩ := src L
              exact turn hA hi L hT h3 h4 (f1 us h1) (f2 ws h2)
      · subst hw
        have ra' : At K (hid M H1) _ (.tuple ds) := ra
        have rb' : At K (hid M H1) _ (.tuple fs) := rb
        cases ra' with
        | @tup a us _ ha hus =>
          cases rb' with
          | @tup b ws _ hb hws =>
            refine ⟨a, b, us, ws, rfl, .inr ⟨same_t hid_same ha, same_t hid_same hb, fun A hA => ?_⟩⟩
            have src : ∀ {i H}, Lc K M H1 S es A σ ρ [(.ref a, .tuple ds), (.ref b, .tuple fs)] i H → ∃ us ws, SqT K H a us ∧ SqT K H b ws ∧ AtAll K (hid (M ++ [A]) H) us ds ∧ AtAll K (hid (M ++ [A]) H) ws fs := fun {i H} L => by
              have h1 : At K (hid (M ++ [A]) H) (.ref a) (.tuple ds) := L.sr _ (List.mem_cons_self ..)
              have h2 : At K (hid (M ++ [A]) H) (.ref b) (.tuple fs) := L.sr (.ref b, .tuple fs) (by simp)
              cases h1 with
              | tup h3 h4 =>
                cases h2 with
                | tup h5 h6 => exact ⟨_, _, same_t hid_same h3, same_t hid_same h5, h4, h6⟩
            refine lc_any (J := RZ.ItzT K a b) (N := ds.length) (Lc K M H1 S es A σ ρ [(.ref a, .tuple ds), (.ref b, .tuple fs)]) (Lc.start S1 (Re.mono e1) (fun q hq => ?_) hA) (fun i H hi L => ?_) (fun H L => ?_) (fun i x H H' hi L hy => ?_) (fun H L => L.done hA hl e1 (back_none e1 S1 hA) q)
            · simp at hq
              rcases hq with hq | hq
              · subst hq; exact ra
              · subst hq; exact rb
            · obtain ⟨us, ws, h1, h2, h3, h4⟩ := src L
              obtain ⟨x, hx, _⟩ := h3.get (List.getElem?_eq_getElem hi)
              obtain ⟨y, hy, _⟩ := h4.get (List.getElem?_eq_getElem (show i < fs.length by rw [hf]; exact hi))
              exact ⟨us, ws, x, y, h1, h2, hx, hy⟩
            · obtain ⟨us, ws, h1, h2, h3, h4⟩ := src L
              exact ⟨us, ws, h1, h2, .inl (by rw [h3.len]; exact Nat.le_refl _)⟩
            · obtain ⟨T, x1, y1, rfl, hT, rfl, f1, f2⟩ := hy
              obtain ⟨us, ws, h1, h2, h3, h4⟩ := src L
              exact turn hA hi L hT h3 h4 (f1 us h1) (f2 ws h2)

/-! ## a def's start -/
def rho0 (N : List Str) (xs : List Dx) : En := xs.map some ++ List.replicate (N.length - xs.length) none
theorem re_start {N : List Str} {vs : List V} (r : RXs K M H vs xs) : RE K M H (L2.start N vs) (rho0 N xs) := by
  have hl := r.len
  refine ⟨by unfold L2.start rho0; simp [hl], fun i x hx => ?_⟩
  unfold rho0 at hx
  unfold L2.start
  by_cases c : i < xs.length
  · rw [List.getElem?_append_left (by simpa using c), List.getElem?_map] at hx
    have : ∀ {vs : List V} {xs : List Dx} {i : Nat}, RXs K M H vs xs → (xs[i]?).map some = some (some x) → ∃ v, vs[i]? = some v ∧ RX K M H v x := fun {vs xs i} r => by
      induction r generalizing i with
      | nil => intro h; simp at h
      | cons h t ih =>
        intro hx
        cases i with
        | zero => simp at hx; subst hx; exact ⟨_, rfl, h⟩
        | succ i => exact ih (i := i) (by simpa using hx)
    obtain ⟨v, h1, h2⟩ := this r hx
    exact ⟨v, by rw [List.getElem?_append_left (by simpa using (List.getElem?_eq_some_iff.mp h1).1), List.getElem?_map, h1]; rfl, h2⟩
  · rw [List.getElem?_append_right (by simpa using c), List.getElem?_replicate] at hx
    split at hx <;> cases hx
theorem w_run {N : List Str} {vs : List V} {P : L2.St → Hp → Prop} (hS : So K M s H) (r : RXs K M H vs xs) (h : W K M H [] P (rho0 N xs) s) : P (L2.start N vs) H :=
  h M _ H ⟨⟨[], (List.append_nil M).symm, fun _ h => by cases h⟩, Same.refl _, hS, re_start r, fun _ h => by cases h⟩
end
end Pw
namespace Pw
open PySem L2
/-! ## defs as they are called -/
section
variable {P : Program} {w : World} {K : Fg} {mg : Str → Option Value} {base : Heap} {X : Cx}
/-- a def known by its promise, all its arguments written -/
structure Cb (P : Program) (w : World) (K : Fg) (mg : Str → Option Value) (base : Heap) (x : Str) (lv : Nat) (dvs : List V) (sp : Sp) : Prop where
  ex : ∃ (f : Addr) (fd : FuncData) (ps : List Str) (ds : List Value), mg x = some (.ref f) ∧ PySem.W.keepIn K (.ref f) = true ∧ FnOk P w K mg base CX0 lv f fd ps sp ∧ Binds K fd ps ds ∧ Vals dvs ds
/-- .. by keywords alone -/
structure Ck (P : Program) (w : World) (K : Fg) (mg : Str → Option Value) (base : Heap) (x : Str) (lv : Nat) (ks : List Str) (g : {α : Type} → List α → List α) (sp : Sp) : Prop where
  ex : ∃ (f : Addr) (fd : FuncData) (ps : List Str) (g' : List Value → List Value → List Value), mg x = some (.ref f) ∧ PySem.W.keepIn K (.ref f) = true ∧ FnOk P w K mg base CX0 lv f fd ps sp ∧ KBn K fd ps 0 ks g' (fun _ zs => g zs)
theorem pe_cb {fx : Str} {lv : Nat} {dvs : List V} {sp : Sp} {p pos : Pos} {e : Expr} {es : List Expr} {t : TA} (C : Cb X.prog X.w X.K X.mg X.base fx lv dvs sp) (hr : Room lv X.A) (hg : Gl X fx) (ha : PA X (e :: es) t)
    (hdb : (fx == ("__debug__" : Str)) = false := by decide) (he : starEach (e :: es) X.env = (false, eval e X.env) :: starEach es X.env := by rfl)
    (hpl : (backTo pos (starEach es X.env)).any (·.1) = false := by rfl) : PE X (.Call (.Name fx p) (e :: es) [] pos) (tCall sp dvs E0 t) := by
  obtain ⟨f, fd, ps, ds, h1, h2, h3, h4, h5⟩ := C.ex
  exact pe_call h3 hr hg h1 h2 h4 h5 pass0 ha hdb he hpl
theorem pe_ck {fx : Str} {lv : Nat} {ks : List Str} {g : {α : Type} → List α → List α} {sp : Sp} {p pos : Pos} {kws : List Keyword} {tk : TA} (C : Ck X.prog X.w X.K X.mg X.base fx lv ks g sp) (hr : Room lv X.A) (hg : Gl X fx) (hkw : PK X kws tk)
    (hall : (backToKw pos (keywordEach kws X.env)).all (·.1.isSome) = true := by rfl)
    (hks : (backToKw pos (keywordEach kws X.env)).filterMap (·.1) = ks := by rfl)
    (hdb : (fx == ("__debug__" : Str)) = false := by decide)
    (hpl : ((backTo pos (starEach [] X.env)).any (·.1) || (backToKw pos (keywordEach kws X.env)).any (·.1.isNone)) = false := by rfl) :
    PE X (.Call (.Name fx p) [] kws pos) (tCallN 0 ks.length sp (fun _ zs => g zs) E0 tNil tk) := by
  obtain ⟨f, fd, ps, g', h1, h2, h3, h4⟩ := C.ex
  exact pe_kw h3 hr hg h1 h2 h4 pass0 hkw hall hks hdb hpl
def swap2 {α : Type} : List α → List α
  | [a, b] => [b, a]
  | l => l
def same1 {α : Type} (l : List α) : List α := l
theorem vals_swap2 {zs : List V} {ws : List Value} (h : Vals zs ws) : Vals (swap2 zs) (swap2 ws) := by
  cases h with
  | nil => exact .nil
  | cons h t =>
    cases t with
    | nil => exact .cons h .nil
    | cons h2 t =>
      cases t with
      | nil => exact .cons h2 (.cons h .nil)
      | cons h3 t => exact .cons h (.cons h2 (.cons h3 t))
theorem vals_same1 {zs : List V} {ws : List Value} (h : Vals zs ws) : Vals (same1 zs) (same1 ws) := h
theorem rxs_swap2 {M : List Addr} {H : Hp} {a b : Dx} {zs : List V} (h : RXs K M H zs [a, b]) : RXs K M H (swap2 zs) [b, a] := by
  cases h with
  | cons h t =>
    cases t with
    | cons h2 t =>
      cases t
      exact .cons h2 (.cons h .nil)
theorem rxs_same1 {M : List Addr} {H : Hp} {xs : List Dx} {zs : List V} (h : RXs K M H zs xs) : RXs K M H (same1 zs) xs := h
section
variable {nm qual : Str} {st : Stmt} {f : Addr} {fd : FuncData} {ps ks : List Str} {lv : Nat} {sp : Sp} {g : {α : Type} → List α → List α}
theorem cb_mk (G : Fun K nm qual st f fd) (hm : mg nm = some (.ref f)) (O : FnOk P w K mg base CX0 lv f fd ps sp)
    (h : ∀ (kV doc pm : Value) (an : Option Addr) (cdv ct : Value) (us : List Value), us.length = ps.length → bindArgs (PySem.W.fnOf nm qual (defArgs st) (defBody st) (defScope st) .none kV doc pm an cdv ct) ⟨us, []⟩ = pure (ps.zip us)) : Cb P w K mg base nm lv [] sp :=
  ⟨f, fd, ps, [], hm, G.kp, O, G.binds h, .nil⟩
theorem ck_mk (G : Fun K nm qual st f fd) (hm : mg nm = some (.ref f)) (O : FnOk P w K mg base CX0 lv f fd ps sp) (hrel : ∀ {zs : List V} {ws : List Value}, Vals zs ws → Vals (g zs) (g ws))
    (h : ∀ (kV doc pm : Value) (an : Option Addr) (cdv ct : Value) (ws : List Value), ws.length = ks.length → bindArgs (PySem.W.fnOf nm qual (defArgs st) (defBody st) (defScope st) .none kV doc pm an cdv ct) ⟨[], ks.zip ws⟩ = pure (ps.zip (g ws))) : Ck P w K mg base nm lv ks g sp :=
  ⟨f, fd, ps, _, hm, G.kp, O, kb_of G (fun _ r => hrel r) h (fun _ r => hrel r)⟩
/-- a def with defaults -/
theorem ckD_mk {dvs : List V} (G : FunD K nm qual (defArgs st) (defBody st) (defScope st) dvs [] f fd) (hd : dvs ≠ []) (hm : mg nm = some (.ref f)) (O : FnOk P w K mg base CX0 lv f fd ps sp) (hrel : ∀ {zs : List V} {ws : List Value}, Vals zs ws → Vals (g zs) (g ws))
    (h : ∀ (T : Addr) (kV doc pm : Value) (an : Option Addr) (cdv ct : Value) (ws its : List Value), ws.length = ks.length → its.length = dvs.length →
      ∃ k, bindArgs (PySem.W.fnOf nm qual (defArgs st) (defBody st) (defScope st) (.ref T) kV doc pm an cdv ct) ⟨[], ks.zip ws⟩ = seqItems? (.ref T) >>= k ∧ k (some its.toArray) = pure (ps.zip (g ws))) : Ck P w K mg base nm lv ks g sp := by
  obtain ⟨oc, od, dV, kV, doc, pm, an, cdv, ct, osl, rfl, lk, hcd, hD, hK⟩ := G.ex
  rcases hD with ⟨e, _⟩ | ⟨_, T, o, its, m, rfl, lT, oT, rT⟩
  · exact absurd e hd
  · refine ⟨f, _, ps, fun _ ws => g ws, hm, G.kp, O, ⟨fun s us ws Xs l1 l2 => ?_, fun _ r => hrel r⟩⟩
    have e : us = [] := List.eq_nil_of_length_eq_zero l1
    subst e
    obtain ⟨k, e1, e2⟩ := h T kV doc pm an cdv ct ws its l2 rT.length.symm
    refine BindsTo.of_looks fun M => ?_
    rw [e1]
    exact looks_items Xs lT oT (PySem.W.Looks.of_pure e2)
theorem cbD_mk {dvs : List V} (n j : Nat) (G : FunD K nm qual (defArgs st) (defBody st) (defScope st) dvs [] f fd) (hd : dvs ≠ []) (hn : n + (dvs.length - j) = ps.length) (hm : mg nm = some (.ref f)) (O : FnOk P w K mg base CX0 lv f fd ps sp)
    (h : ∀ (T : Addr) (kV doc pm : Value) (an : Option Addr) (cdv ct : Value) (us its : List Value), us.length = n → its.length = dvs.length →
      ∃ k, bindArgs (PySem.W.fnOf nm qual (defArgs st) (defBody st) (defScope st) (.ref T) kV doc pm an cdv ct) ⟨us, []⟩ = seqItems? (.ref T) >>= k ∧ k (some its.toArray) = pure (ps.zip (us ++ its.drop j))) : Cb P w K mg base nm lv (dvs.drop j) sp := by
  obtain ⟨ds, h1, h2⟩ := G.binds1 n j hd hn h
  exact ⟨f, fd, ps, ds, hm, G.kp, O, h2, h1⟩
end
end

/-! ## the law's own def, run where no repr is under way -/
section
open PySem.W PySem.Spec PyProof.Rows
variable {P : Program} {w : World} {K : Fg} {mg mb : Str → Option Value}
/-- where the script stands -/
def scrH (K : Fg) (a : Addr) (vs : List Value) (ns : List Int) : Hp := match K.lookup a with
  | some _ => fun _ => none
  | none => fun b => if b = a then some (.frz { cls := .type "list", data := .seq vs.toArray } (.lst (ns.map V.int))) else none
theorem scr_sq {a : Addr} {vs : List Value} {ns : List Int} {h : Heap} (KX : K.In h) (ha : h.get? a = some { cls := .type "list", data := .seq vs.toArray }) (rv : Vals (ns.map V.int) vs) (hl : ns.length ≤ sizeLine) : SqL K (scrH K a vs ns) a (ns.map V.int) := by
  unfold scrH
  cases hk : K.lookup a with
  | some o =>
    have e := KX a o hk
    rw [ha] at e
    cases e
    have l := rv.length
    rw [List.length_map] at l
    exact .inr ⟨_, vs.toArray, _, hk, rfl, rfl, rfl, by rw [List.size_toArray, ← l]; exact hl, by simpa using rv⟩
  | none => exact .inl (.inr ⟨_, if_pos rfl⟩)
theorem scr_only {a : Addr} {vs : List Value} {ns : List Int} {b : Addr} {u : HO} (e : scrH K a vs ns b = some u) : b = a ∧ K.lookup a = none ∧ u = .frz { cls := .type "list", data := .seq vs.toArray } (.lst (ns.map V.int)) := by
  unfold scrH at e
  cases hk : K.lookup a with
  | some o => rw [hk] at e; cases e
  | none =>
    rw [hk] at e
    have e' : (if b = a then some (HO.frz { cls := .type "list", data := .seq vs.toArray } (.lst (ns.map V.int))) else none) = some u := e
    by_cases c : b = a
    · rw [if_pos c] at e'
      cases e'
      exact ⟨c, rfl, rfl⟩
    · rw [if_neg c] at e'
      cases e'
theorem law_at {fa a : Addr} {qual : Str} {st : Stmt} {fd : FuncData} {x nm : Str} {N : List Str} {k : Nat} {s₁ : Shared} {vs : List Value} {ns : List Int} (KX : K.In s₁.heap) (hns : s₁.heap.Ns mainGlobals mg) (hb : s₁.heap.Ns builtinsNs mb)
    (hbb : ∀ y : Str, y ≠ "__name__" → mb y = bootBuiltins y) (hlim : s₁.heap.NoLimit) (hgn : s₁.gens = #[]) (ha : s₁.heap.get? a = some { cls := .type "list", data := .seq vs.toArray }) (hi : IntsAre vs ns) (hl : ns.length ≤ sizeLine)
    (hr : Room (k + 1) callerA) (G : Fun K nm qual st fa fd) (S : FnScope N [x] (defScope st)) (hbind : ∀ (s : Shared) (u : Value), BindsTo s fd ⟨[u], []⟩ [(x, u)])
    (hbody : ∀ (base : Heap) (cdv : Value) (s : Shared) (H : Hp), K.In base → base.Ns mainGlobals mg → Room k (callerA.deeper (envOfC qual (defScope st) s.heap.objs.size fa cdv)) → SqL K H a (ns.map V.int) →
      ∃ t, PSs (cxOf CX0 P w K mg base N qual (defScope st) fa cdv callerA [] s H E0).nox (defBody st) t ∧ t { nx := fun _ _ => False, rt := fun v _ => v = .bl true } (L2.start N [.ref a]) H) :
    codeAny (model P w) callerA (.call (.ref fa) ⟨[.ref a], []⟩) (fun r s' => r = .ok (.ret (.bool true)) ∧ OldK s₁.heap s'.heap ∧ s'.os = s₁.os ∧ AllBare s'.gens) s₁ := by
  have rv := vals_ints hi
  obtain ⟨oc, od, kV, doc, pm, an, cdv, ct, osl, rfl, lk, hcd⟩ := G.ex
  let H : Hp := scrH K a vs ns
  have hSq : SqL K H a (ns.map V.int) := scr_sq KX ha rv hl
  have hA : ∀ {b : Addr} {u : HO}, H b = some u → b = a ∧ K.lookup a = none ∧ u = .frz { cls := .type "list", data := .seq vs.toArray } (.lst (ns.map V.int)) := fun e => scr_only e
  have hok : HOk P w H s₁.heap := fun b u e => by
    obtain ⟨e1, _, e2⟩ := hA e
    subst e1 e2
    exact ⟨ha, by rw [List.length_map]; exact hl, vs, _, rv, ha⟩
  have keepH : ∀ {b : Addr} {o : Obj}, s₁.heap.get? b = some o → H b = none → (hidT s₁.heap H).get? b = some o := fun e n => hidT_get e n
  have noDict : ∀ {b : Addr} {o : Obj} {es : Array DictEntry} {ep : Nat}, s₁.heap.get? b = some o → o.data = .dict es ep → H b = none := fun {b o es ep} e d => by
    cases q : H b with
    | none => rfl
    | some u =>
      obtain ⟨e1, _, _⟩ := hA q
      rw [e1, ha] at e
      cases e
      exact nomatch d
  have nsH : ∀ {b : Addr} {m : Str → Option Value}, s₁.heap.Ns b m → (hidT s₁.heap H).Ns b m := fun ⟨o, es, ep, e, d, r⟩ => ⟨o, es, ep, keepH e (noDict e d), d, r⟩
  have hKb : K.In (hidT s₁.heap H) := fun b o e => keepH (KX b o e) (by
    cases q : H b with
    | none => rfl
    | some u =>
      obtain ⟨e1, e2, _⟩ := hA q
      rw [e1, e2] at e
      cases e)
  have hM : Mod K mg (hidT s₁.heap H) := ⟨hKb, nsH hns, ⟨mb, nsH hb, hbb⟩, let ⟨mc, h1, h2⟩ := hlim; ⟨mc, nsH h1, h2⟩⟩
  have e0 : Env0 P w K mg (hidT s₁.heap H) callerA [] s₁ H := ⟨rfl, hM, fun b o e => of_hidT e, Nat.le_of_eq (hidT_size _ _), trivial, fun b z => (by cases (show b ∈ ([] : List Addr) from z)), hok, .of_eq hgn⟩
  have hkind : ∀ y ∈ ([x] : List Str).zip [Value.ref a], (defScope st).names.lookup y.1 = some .local ∨ ((defScope st).names.lookup y.1 = some .cell ∧ ((cellsFrom (s₁.heap.objs.size + 1) (defScope st).names []).lookup y.1).isSome = true) := fun ⟨y, v⟩ hy =>
    (S.par y (List.of_mem_zip hy).1).imp (fun q => q) fun q => ⟨q, PySem.W.cellsFrom_some _ _ _ (.inl q)⟩
  refine codeAny_call_function hr.depth (KX _ _ lk) rfl S.co S.gen rfl (PySem.W.codeRec_of KX hcd) (hbind s₁ (.ref a) _ _ _ _ ?_)
  refine wpAny_newFunctionEnv_cells S.kind hkind fun env he s1 xx => ?_
  subst he
  refine ⟨hlim.keeps xx.toInCall.keep, codeAny_func ?_⟩
  obtain ⟨t, ht, hq⟩ := hbody (hidT s₁.heap H) cdv s₁ H hKb (nsH hns) (hr.deeper _) hSq
  have I : Inv (cxOf CX0 P w K mg (hidT s₁.heap H) N qual (defScope st) fa cdv callerA [] s₁ H E0) [] (L2.start N [.ref a]) H s1 := inv_start S hr.hd e0 rfl (.cons rfl .nil) xx
  refine wpAny_mono (ht.nox.run [] s1 _ H _ I hq) (fun fl s' hs => ?_) fun e s' hs => ?_
  · cases fl with
    | ret u =>
      obtain ⟨v, σ', H', J, ru, q⟩ := hs
      have q' : v = .bl true := q
      subst q'
      cases (show u = Value.bool true from ru)
      refine ⟨rfl, OldK.of_keep fun b o e => ?_, J.os, J.bare⟩
      cases q : H b with
      | none => exact J.base.keep b o e q (fun z => by cases (show b ∈ ([] : List Addr) from z)) (fun z => by cases (show b ∈ ([] : List Addr) from z))
      | some u =>
        obtain ⟨e1, _, e2⟩ := hA q
        subst e1 e2
        obtain ⟨e3, _⟩ := J.hok _ _ (J.base.frzs _ _ _ q)
        rw [ha] at e
        cases e
        exact e3
    | next => obtain ⟨_, _, _, q⟩ := hs; exact q.elim
    | brk => obtain ⟨_, _, _, q⟩ := hs; exact (show False from q).elim
    | cont => obtain ⟨_, _, _, q⟩ := hs; exact (show False from q).elim
  · exact wpAny_mono hs (fun _ _ z => (show False from z).elim) fun _ _ z => (show False from z).elim
end

/-! ## repr -/
section
variable {X : Cx} {K : Fg} {s : Sto}
theorem cb_repr (hg : X.A.guards = some []) (hu : X.A.units + 64 < cLine) : CallR X (.builtin "repr") (rRepr X.K) := by
  intro pins s σ H xs us Q I r h
  obtain ⟨x, d, rfl, hd, h1, h2, h3, h4, q⟩ := h
  obtain ⟨u, rfl, ru⟩ := vals1 r
  obtain ⟨as, hr⟩ := Dp.reads I d x u hd ru
  cases hr with
  | none => exact PySem.P.repr_of_none ⟨.str _, H, I.tok _, ⟨_, rfl⟩, q⟩
  | bool b => exact PySem.P.repr_of_bool ⟨.str _, H, I.tok _, ⟨_, rfl⟩, q⟩
  | int i t => exact PySem.P.repr_of_int (of_decide_eq_true h1) ⟨.str _, H, I.tok _, ⟨_, rfl⟩, q⟩
  | str z t => exact PySem.P.repr_of_str ⟨.str _, H, I.tok _, ⟨_, rfl⟩, q⟩ h4
  | @list a o vs n ys as g1 g2 g3 g4 =>
    exact PySem.repr_of_reads' (.list g1 g2 g3 g4) h1 (PyData.noDict_hsm h2) hg (by omega) (fun _ _ e => e) (fun h' u tk hk => ⟨.str _, H, I.kept hk, ⟨_, rfl⟩, q⟩) h4
  | @tuple a o vs n ys as g1 g2 g3 g4 =>
    exact PySem.repr_of_reads' (.tuple g1 g2 g3 g4) h1 (PyData.noDict_hsm h2) hg (by omega) (fun _ _ e => e) (fun h' u tk hk => ⟨.str _, H, I.kept hk, ⟨_, rfl⟩, q⟩) h4
  | dict g1 g2 g3 g4 g5 => simp [PyData.hasDict] at h2
theorem o_repr {d : PyData} (h1 : PyData.showable d = true) (h2 : PyData.hasDict d = false) (h3 : d.depth ≤ 60) (h4 : d.shown.length ≤ 16000000) : OpC K (rRepr K) [.d d] s (.d (.str d.shown)) s := fun M H vs S r Q q => by
  cases r with
  | cons h t =>
    cases t
    exact ⟨_, d, rfl, At.dp _ _ (At.mono hid_same _ _ h), h1, h2, h3, Nat.le_trans h4 (by decide), q.here S (.str _)⟩
end
/-! ## slices -/
section
variable {X : Cx} {K : Fg} {s s1 s2 s3 : Sto} {ρ : En} {te : TE} {tl th : TO} {x : Dx}
theorem SlR.or {r r' : V → Option Int → Option Int → Hp → VK → Prop} (h : SlR X r) (h' : SlR X r') : SlR X (fun x lo hi H Q => r x lo hi H Q ∨ r' x lo hi H Q) := fun pins s σ H x v vl vu lo hi sl Q I rx hs pl pu q =>
  q.elim (h pins s σ H x v vl vu lo hi sl Q I rx hs pl pu) (h' pins s σ H x v vl vu lo hi sl Q I rx hs pl pu)
def EvO (K : Fg) (to : TO) (ρ : En) (s : Sto) (o : Option Int) (s' : Sto) : Prop := ∀ M σ H, So K M s H → RE K M H σ ρ → ∀ Q : Option Int → Hp → Prop, (∀ H', Same (hid M H) (hid M H') → So K M s' H' → Q o H') → to σ H Q
theorem eo_none : EvO K tNoPart ρ s none s := fun M σ H S R Q q => q H (Same.refl _) S
theorem eo_some {i : Int} (h : Ev K te ρ s (.d (.int i)) s1) : EvO K (tPart te) ρ s (some i) s1 := fun M σ H S R Q q => h M σ H S R _ fun v H1 e S1 r => by
  cases r
  exact ⟨i, rfl, q H1 e S1⟩
/-- t[lo:hi], t a tuple -/
theorem cut_all {α : Type} (xs : List α) (a b : Nat) (h : a = 0 ∧ b = xs.length) : (xs.drop a).take (b - a) = xs := by
  obtain ⟨rfl, rfl⟩ := h
  simp
def cutD (ds : List PyData) (lo hi : Option Int) : List PyData := (ds.drop (HT.sIx ds.length 0 lo)).take (HT.sIx ds.length ds.length hi - HT.sIx ds.length 0 lo)
theorem ev_slT {ds : List PyData} {lo hi : Option Int} (h : Ev K te ρ s (.d (.tuple ds)) s1) (h1 : EvO K tl ρ s1 lo s2) (h2 : EvO K th ρ s2 hi s3) : Ev K (tSl (rSlA K) te tl th) ρ s (.d (.tuple (cutD ds lo hi))) s3 := fun M σ H S R Q q =>
  h M σ H S R _ fun v H1 e1 S1 r => h1 M σ H1 S1 (R.mono e1) _ fun H2 e2 S2 => h2 M σ H2 S2 (R.mono (e1.trans e2)) _ fun H3 e3 S3 => by
    have r' : At K (hid M H3) v (.tuple ds) := At.mono (e2.trans e3) _ _ r
    have q3 := q.step ((e1.trans e2).trans e3)
    cases r' with
    | @tup a xs _ g a1 =>
      refine ⟨a, xs, rfl, same_t hid_same g, fun z => ?_, fun z p hp => ?_⟩
      · refine q3.here S3 ?_
        have e : cutD ds lo hi = ds := by
          unfold cutD
          refine cut_all _ _ _ ?_
          rw [← a1.len]
          exact z
        rw [e]
        exact .tup g a1
      · refine q3 _ _ (hid_new hp) (S3.new hp) (At.tup (xs := cutV xs lo hi) (SqT.of ?_) (AtAll.mono (hid_new hp) _ _ ?_))
        · rw [hid_out (S3.free hp)]
          exact upd_same
        · unfold cutV cutD
          rw [← a1.len]
          exact AtAll.take _ (AtAll.drop _ a1)
end
end Pw
namespace Pw
open PySem L2
section
variable {P : Program} {w : World} {K : Fg} {mg : Str → Option Value} {base : Heap} {ρ : En} {s s1 s2 s3 : Sto} {x y z : Dx} {xs ys zs : List Dx} {ta tb te : TE} {tas tks : TA} {t u : TT} {b c : Bool} {i j : Int} {ds es : List PyData}
theorem cx_K {CX : CXT} {N : List Str} {qual : Str} {sc : Scope} {f : Addr} {cd : Value} {A : Around} {outer : List Env} {s : Shared} {H : Hp} {E : XK} : (cxOf CX P w K mg base N qual sc f cd A outer s H E).K = K := rfl
theorem nox_K {CX : CXT} {N : List Str} {qual : Str} {sc : Scope} {f : Addr} {cd : Value} {A : Around} {outer : List Env} {s : Shared} {H : Hp} {E : XK} : (cxOf CX P w K mg base N qual sc f cd A outer s H E).nox.K = K := rfl
theorem okr_0 {M0 : List Addr} {H0 : Hp} {Q : VK} {d : PyData} {s : Sto} (q : Okk K M0 s (.d d) H0 Q) (hl : s.length = M0.length) : Okr K M0 H0 (.d d) s Q := by
  have h := okr_d (t := []) q hl
  rw [List.append_nil] at h
  exact h
theorem Okr.is {M0 : List Addr} {H0 : Hp} {Q : VK} {x x' : Dx} {s : Sto} (h : Okr K M0 H0 x s Q) (e : x' = x) : Okr K M0 H0 x' s Q := e ▸ h
inductive Und : List Dx → List PyData → Prop
  | nil : Und [] []
  | cons {d xs ds} : Und xs ds → Und (.d d :: xs) (d :: ds)
theorem Und.map : ∀ {xs : List Dx} {ds : List PyData}, Und xs ds → xs = ds.map Dx.d
  | _, _, .nil => rfl
  | _, _, .cons h => by rw [List.map_cons, ← h.map]
theorem ev_tupU (h : Eva K tas ρ s xs s1) (hu : Und xs ds) (hl : ds.length ≤ 100000) : Ev K (tTup tas) ρ s (.d (.tuple ds)) s1 := ev_tup (hu.map ▸ h) hl
theorem evn_lstU (h : Eva K tas ρ s xs s1) (hu : Und xs ds) (hl : ds.length ≤ 100000) : EvN K (tLst tas) ρ s ds s1 := evn_lst (hu.map ▸ h) hl
theorem et_or1 (h1 : EvT K t ρ s true s1) : EvT K (tOr t u) ρ s true s1 := fun M σ H S R Q q => h1 M σ H S R _ fun H1 e S1 => q H1 e S1
theorem et_and0 (h1 : EvT K t ρ s false s1) : EvT K (tAnd t u) ρ s false s1 := fun M σ H S R Q q => h1 M σ H S R _ fun H1 e S1 => q H1 e S1
theorem ev_and0 (h1 : Ev K ta ρ s (.d (.bool false)) s1) : Ev K (tAndV ta tb) ρ s (.d (.bool false)) s1 := fun M σ H S R Q q => h1 M σ H S R _ fun v H1 e S1 r => by
  cases r
  exact ⟨false, rfl, q _ H1 e S1 (.bl false)⟩
theorem o_repI (h : ds.length * j.toNat ≤ 1000000) (h0 : 0 ≤ j) (h2 : j ≤ 1000000) : Op2N K rTimes (.d (.list ds)) (.d (.int j)) s (List.replicate j.toNat ds).flatten s := by
  have e : j = ((j.toNat : Nat) : Int) := (Int.toNat_of_nonneg h0).symm
  have := o_rep (K := K) (s := s) (ds := ds) (n := j.toNat) h (by omega)
  rw [← e] at this
  exact this
theorem o_neS {a b : Str} : Op2 K rNe (.d (.str a)) (.d (.str b)) s (.d (.bool (!decide (V.str a = V.str b)))) s := fun M H v w S r1 r2 Q q => by
  cases r1; cases r2
  exact ⟨rfl, q.here S (.bl _)⟩
theorem o_eqS {a b : Str} : Op2 K rEq (.d (.str a)) (.d (.str b)) s (.d (.bool (decide (V.str a = V.str b)))) s := fun M H v w S r1 r2 Q q => by
  cases r1; cases r2
  exact ⟨rfl, q.here S (.bl _)⟩
theorem w_at {M0 : List Addr} {H0 : Hp} {F : Kp} {P : L2.St → Hp → Prop} {ρ' : En} {s' : Sto} (h : W K M0 H0 F P ρ' s') (hρ : ρ = ρ' := by rfl) (hs : s = s' := by rfl) : W K M0 H0 F P ρ s := hρ ▸ hs ▸ h
theorem so_nil {H : Hp} : So K [] [] H := ⟨List.nodup_nil, rfl, fun k p ds e => by simp at e⟩
theorem hid_nil {H : Hp} : hid [] H = H := by
  funext a
  exact hid_out (by simp)
theorem rxs_scr {H : Hp} {a : Addr} {ns : List Int} (h : SqL K H a (ns.map V.int)) : RXs K [] H [.ref a] [.scr ns] := .cons ⟨a, rfl, by rw [hid_nil]; exact h⟩ .nil
theorem okr_true {H : Hp} {s : Sto} : Okr K [] H (.d (.bool true)) s (fun v _ => v = .bl true) := fun M v H' _ _ _ r => by
  cases r
  rfl
theorem rxs_1 {M : List Addr} {H : Hp} {i : Int} : RXs K M H [.int i] [.d (.int i)] := .cons (.int i) .nil
/-! ### isinstance by kind -/
def isI : PyData → Bool
  | .int _ => true | .bool _ => true | _ => false
def isB : PyData → Bool
  | .bool _ => true | _ => false
def isL : PyData → Bool
  | .list _ => true | _ => false
def isT : PyData → Bool
  | .tuple _ => true | _ => false
def isS : PyData → Bool
  | .str _ => true | _ => false
theorem kit_int {d : PyData} : kitB (tyN d) "int" = some (isI d) := by cases d <;> (simp only [tyN, isI]; decide +kernel)
theorem kit_bool {d : PyData} : kitB (tyN d) "bool" = some (isB d) := by cases d <;> (simp only [tyN, isB]; decide +kernel)
theorem kit_list {d : PyData} : kitB (tyN d) "list" = some (isL d) := by cases d <;> (simp only [tyN, isL]; decide +kernel)
theorem kit_tuple {d : PyData} : kitB (tyN d) "tuple" = some (isT d) := by cases d <;> (simp only [tyN, isT]; decide +kernel)
theorem kit_str {d : PyData} : kitB (tyN d) "str" = some (isS d) := by cases d <;> (simp only [tyN, isS]; decide +kernel)
end
/-! ### the rules, their K told -/
section
variable {X : Cx} {K : Fg} {e : Expr} {te : TE} {es : List Expr} {t : TGs} {k n : Nat} {pos p tpos : Pos} {ta tb : TE} {a b : Expr} {tas : TA}
theorem opk_plus (hK : X.K = K := by rfl) : OpR X (binaryOp .Add) (rPlus K) := hK ▸ op_plus
theorem opk_eq (hu : X.A.units + 64 < cLine) (hK : X.K = K := by rfl) : OpR X (compareOp .Eq) (rEqD K) := hK ▸ op_eqD hu
theorem opk_ne (hu : X.A.units + 64 < cLine) (hK : X.K = K := by rfl) : OpR X (compareOp .NotEq) (rNeD K) := hK ▸ op_neD hu
theorem ixk (hK : X.K = K := by rfl) : IxR X (rIx K) := hK ▸ ix_seq
theorem cbk_len (hK : X.K = K := by rfl) : CallR X (.builtin "len") (rLen K) := hK ▸ cb_len
theorem cbk_isi (hK : X.K = K := by rfl) : CallR X (.builtin "isinstance") (rIsi K) := hK ▸ call_isi
theorem cbk_isiT (hK : X.K = K := by rfl) : CallR X (.builtin "isinstance") (rIsiT K) := hK ▸ call_isiT
theorem cbk_all (hc : X.calm = true) (hK : X.K = K := by rfl) : CallR X (.builtin "all") (rAll K) := hK ▸ cb_all hc
theorem cbk_list (hK : X.K = K := by rfl) : CallR X (.type "list") (rListOf K) := hK ▸ cb_list
theorem cbk_tup (hK : X.K = K := by rfl) : CallR X (.type "tuple") (rTupOf K) := hK ▸ cb_tup
theorem cbk_repr (hg : X.A.guards = some []) (hu : X.A.units + 64 < cLine) (hK : X.K = K := by rfl) : CallR X (.builtin "repr") (rRepr K) := hK ▸ cb_repr hg hu
theorem slk_tup (hK : X.K = K := by rfl) : SlR X (rSlA K) := hK ▸ sl_tupA
theorem pik_list {tg : Expr} (h : PE X e te) (hK : X.K = K := by rfl) : PI X tg e (iList K te) := hK ▸ pi_list h
theorem pik_tup {tg : Expr} (h : PE X e te) (hK : X.K = K := by rfl) : PI X tg e (iTup K te) := hK ▸ pi_tup h
theorem pik_zip {elts : List Expr} {kk : Nat} (hg : Gl X "zip") (hm : X.mg "zip" = none) (ha : PA X [a, b] tas) (hK : X.K = K := by rfl)
    (hs : starEach [a, b] X.env = (false, eval a X.env) :: starEach [b] X.env := by rfl) (hpl : (backTo pos (starEach [b] X.env)).any (·.1) = false := by rfl) :
    PI X (.Tuple elts kk tpos) (.Call (.Name "zip" p) [a, b] [] pos) (RZ.iZipA K tas) := hK ▸ RZ.pi_zipA hg hm ha hs hpl
theorem pgk_tup (n : Nat) (hc : X.calm = true) (h : PGs X es t) (hK : X.K = K := by rfl) (hn : (assignEach es X.env).length = n := by rfl) (hst : (assignEach es X.env).findIdx? (·.1) = none := by rfl) : PG X (.Tuple es k pos) (gTup K n t) := by
  subst hK hn
  exact pg_tup hc h rfl hst
end
end Pw
namespace Pw
open PySem L2
/-- what is known of a frame, less of it -/
inductive Lq : En → En → Prop
  | nil : Lq [] []
  | same {x l m} : Lq l m → Lq (x :: l) (x :: m)
  | none {x l m} : Lq l m → Lq (none :: l) (x :: m)
theorem Lq.len {l m : En} (h : Lq l m) : l.length = m.length := by
  induction h with
  | nil => rfl
  | same _ ih => simp [ih]
  | none _ ih => simp [ih]
theorem Lq.at_ {l m : En} (h : Lq l m) : ∀ (i : Nat) x, l[i]? = some (some x) → m[i]? = some (some x) := by
  induction h with
  | nil => intro i x e; exact e
  | same _ ih =>
    intro i x e
    cases i with
    | zero => exact e
    | succ i => exact ih i x e
  | none _ ih =>
    intro i x e
    cases i with
    | zero => cases e
    | succ i => exact ih i x e
theorem Lq.set {l m : En} (h : Lq l m) (n : Nat) (x : Option Dx) : Lq (l.set n x) (m.set n x) := by
  induction h generalizing n with
  | nil => exact .nil
  | same h ih =>
    cases n with
    | zero => exact .same h
    | succ n => exact .same (ih n)
  | none h ih =>
    cases n with
    | zero => exact .same h
    | succ n => exact .none (ih n)
theorem Lq.refl : ∀ l : En, Lq l l
  | [] => .nil
  | _ :: l => .same (Lq.refl l)
section
variable {K : Fg} {ρ ρ' : En} {s : Sto} {M0 : List Addr} {H0 : Hp} {F : Kp} {P : L2.St → Hp → Prop} {ds : List PyData}
theorem w_wk (q : Lq ρ' ρ) (h : W K M0 H0 F P ρ' s) : W K M0 H0 F P ρ s := w_weak h q.len q.at_
theorem o_tupL : OpC K (rTupOf K) [.d (.list ds)] s (.d (.tuple ds)) s := fun M H vs S r Q q => by
  cases r with
  | cons h t =>
    cases t
    cases h with
    | lst h a =>
      refine ⟨_, _, rfl, .inl ⟨SqL.of (hid_some h).2, fun l hl => ?_⟩⟩
      refine q _ _ (hid_new hl) (S.new hl) (At.tup (SqT.of ?_) (AtAll.mono (hid_new hl) _ _ a))
      rw [hid_out (S.free hl)]
      exact upd_same
end
end Pw
namespace Pw
open PySem L2
open PySem.W PySem.Spec PyProof.Rows
/-- a law's end, from its def's body -/
theorem law_end {l : PySem.W.OpenLaw} {n k : Nat} {q : Program} {loose : List Str} {XP : (Str → Option Value) → Heap → Prop} {YP : World → Heap → Prop} {d : DefRec} {K : Params → PySem.W.Frag} {x nm qual : Str} {st : Stmt} {N : List Str}
    (hn : l.most = some n) (hn2 : n ≤ sizeLine) (hdf : d.params.defaults = []) (hr : Room (k + 1) callerA) (hY : ∀ (w : World) (h : Heap), YP w h → (K w.params).In h) (S : FnScope N [x] (defScope st))
    (F : ∀ (w : World) (mg : Str → Option Value) (fa : Addr) (h : Heap), (K w.params).In h → h.Ns mainGlobals mg → mg d.name = some (.ref fa) →
      ∃ fd : FuncData, Fun (K w.params) nm qual st fa fd ∧ (∀ (s : Shared) (u : Value), BindsTo s fd ⟨[u], []⟩ [(x, u)]) ∧
        ∀ (base : Heap) (cdv : Value) (s : Shared) (H : Hp) (a : Addr) (ns : List Int), ns.length ≤ n → (K w.params).In base → base.Ns mainGlobals mg → Room k (callerA.deeper (envOfC qual (defScope st) s.heap.objs.size fa cdv)) → SqL (K w.params) H a (ns.map V.int) →
          ∃ t, PSs (cxOf CX0 l.prog w (K w.params) mg base N qual (defScope st) fa cdv callerA [] s H E0).nox (defBody st) t ∧ t { nx := fun _ _ => False, rt := fun v _ => v = .bl true } (L2.start N [.ref a]) H) :
    PySem.W.WalkO q loose XP YP l.row.toRowW d [] (fun f vs => PySem.call f vs) :=
  Att.attach_call hn hdf fun w s₀ s₁ mg mb fa o pm cd doc a vs ns G Y ho hd hcd hmg hobj hints hlen hg => by
    have KX := hY w _ Y
    obtain ⟨fd, hF, hb, hB⟩ := F w mg fa _ KX G.T.g hmg
    exact law_at KX G.T.g G.T.b G.T.builtins G.T.nolimit hg hobj hints (Nat.le_trans hlen hn2) hr hF S hb fun base cdv s H h1 h2 h3 h4 => hB base cdv s H a ns hlen h1 h2 h3 h4
end Pw
namespace Km
open PySem L2 Pw
/-! ### sizes -/
structure Sm (n : Nat) (i : Int) : Prop where
  lt : i.natAbs < 2 ^ n
theorem Sm.mono {n m : Nat} {i : Int} (h : Sm n i) (e : n ≤ m := by decide) : Sm m i := ⟨Nat.lt_of_lt_of_le h.lt (Nat.pow_le_pow_right (by decide) e)⟩
theorem Sm.mul {n m : Nat} {i j : Int} (h : Sm n i) (h' : Sm m j) : Sm (n + m) (i * j) := ⟨wide_lt h.lt h'.lt⟩
theorem Sm.add {n : Nat} {i j : Int} (h : Sm n i) (h' : Sm n j) : Sm (n + 1) (i + j) := ⟨by
  have h1 := h.lt
  have h2 := h'.lt
  have := Int.natAbs_add_le i j
  rw [Nat.pow_succ]
  omega⟩
theorem Sm.neg {n : Nat} {i : Int} (h : Sm n i) : Sm n (-i) := ⟨by
  rw [Int.natAbs_neg]
  exact h.lt⟩
theorem Sm.sub {n : Nat} {i j : Int} (h : Sm n i) (h' : Sm n j) : Sm (n + 1) (i - j) := by
  rw [Int.sub_eq_add_neg]
  exact h.add h'.neg
theorem Sm.le {n : Nat} {i j : Int} (h : Sm n j) (e : i.natAbs ≤ j.natAbs) : Sm n i := ⟨Nat.lt_of_le_of_lt e h.lt⟩
theorem Sm.of {n : Nat} {i : Int} (b : Nat) (h : i.natAbs ≤ b) (e : b < 2 ^ n := by decide) : Sm n i := ⟨Nat.lt_of_le_of_lt h e⟩
theorem cm_sm {n m : Nat} {i j : Int} (h : Sm n i) (h' : Sm m j) (hn : n ≤ 60000000 := by decide) (hm : m ≤ 60000000 := by decide) : CM i j := cm_big h.lt h'.lt hn hm
theorem cf_sm {n : Nat} {i j : Int} (h0 : j ≠ 0) (h : Sm n j) (hn : n ≤ 8999 := by decide) : CF i j := ⟨h0, by
  have := PySem.Flt.log2_lt_of (n := j.natAbs) (k := n + 1) (by omega) (Nat.lt_of_lt_of_le h.lt (Nat.pow_le_pow_right (by decide) (by omega)))
  omega⟩

/-! ### fractions -/
def sg (v : Int) : Int := if 0 < v then 1 else -1
/-- the two parts of u over v, lowered -/
def lwN (u v : Int) : Int := (sg v * u).fdiv ((Nat.gcd u.natAbs v.natAbs : Nat) : Int)
def lwD (u v : Int) : Int := ((v.natAbs : Nat) : Int).fdiv ((Nat.gcd u.natAbs v.natAbs : Nat) : Int)
theorem gcd_pos {u v : Int} (h : v ≠ 0) : 0 < ((Nat.gcd u.natAbs v.natAbs : Nat) : Int) := by
  have : 0 < Nat.gcd u.natAbs v.natAbs := Nat.gcd_pos_of_pos_right _ (by omega)
  omega
theorem fdiv_le {u g : Int} (h : 0 < g) : (u.fdiv g).natAbs ≤ u.natAbs := by
  rw [Int.fdiv_eq_ediv_of_nonneg u (by omega)]
  have h1 := Int.emod_nonneg u (show g ≠ 0 by omega)
  have h2 := Int.emod_lt_of_pos u h
  have h3 := Int.mul_ediv_add_emod u g
  by_cases c : 0 ≤ u
  · have h4 : 0 ≤ u / g := Int.ediv_nonneg c (by omega)
    have h5 : u / g ≤ u := Int.ediv_le_self _ c
    omega
  · have h4 : u / g < 0 := Int.ediv_neg_of_neg_of_pos (by omega) h
    have h6 : (g - 1) * 1 ≤ (g - 1) * (-(u / g)) := Int.mul_le_mul_of_nonneg_left (by omega) (by omega)
    have h7 : (g - 1) * (-(u / g)) = -(g * (u / g)) + u / g := by
      rw [Int.sub_mul, Int.one_mul, Int.mul_neg]
      omega
    omega
theorem sg_abs (v : Int) : (sg v).natAbs = 1 := by unfold sg; split <;> rfl
theorem lwN_le {u v : Int} (h : v ≠ 0) : (lwN u v).natAbs ≤ u.natAbs := by
  unfold lwN
  refine Nat.le_trans (fdiv_le (gcd_pos h)) ?_
  rw [Int.natAbs_mul, sg_abs]
  omega
theorem lwD_le {u v : Int} (h : v ≠ 0) : (lwD u v).natAbs ≤ v.natAbs := by
  unfold lwD
  refine Nat.le_trans (fdiv_le (gcd_pos h)) ?_
  omega
theorem lwD_pos {u v : Int} (h : v ≠ 0) : 0 < lwD u v := by
  unfold lwD
  have g := gcd_pos (u := u) h
  rw [Int.fdiv_eq_ediv_of_nonneg _ (by omega)]
  have d : Nat.gcd u.natAbs v.natAbs ∣ v.natAbs := Nat.gcd_dvd_right _ _
  obtain ⟨k, hk⟩ := d
  have hv : 0 < v.natAbs := by omega
  have k0 : 0 < k := by
    rcases Nat.eq_zero_or_pos k with z | z
    · subst z; omega
    · exact z
  generalize Nat.gcd u.natAbs v.natAbs = gg at *
  rw [hk]
  have e : ((gg * k : Nat) : Int) / (gg : Int) = (k : Int) := by
    rw [Int.natCast_mul, Int.mul_ediv_cancel_left _ (by omega)]
  rw [e]
  omega
/-- the program's way: by the shared part with the bottom's sign -/
theorem frac_N {u v : Int} (h : v ≠ 0) : u.fdiv (if v < 0 then -((Nat.gcd u.natAbs v.natAbs : Nat) : Int) else ((Nat.gcd u.natAbs v.natAbs : Nat) : Int)) = lwN u v := by
  have g := gcd_pos (u := u) h
  unfold lwN sg
  have d : (Nat.gcd u.natAbs v.natAbs : Int) ∣ u := by
    have := Nat.gcd_dvd_left u.natAbs v.natAbs
    exact Int.ofNat_dvd_left.mpr this
  obtain ⟨k, hk⟩ := d
  generalize ((Nat.gcd u.natAbs v.natAbs : Nat) : Int) = gg at *
  by_cases c : v < 0
  · rw [if_pos c, if_neg (by omega), hk]
    have e : gg * k = (-gg) * (-k) := by rw [Int.neg_mul_neg]
    have e2 : -1 * (gg * k) = gg * (-k) := by rw [Int.mul_neg, Int.neg_mul, Int.one_mul]
    rw [e2]
    conv => lhs; rw [e]
    rw [Int.mul_fdiv_cancel_left _ (by omega), Int.mul_fdiv_cancel_left _ (by omega)]
  · rw [if_neg c, if_pos (by omega), Int.one_mul]
theorem frac_D {u v : Int} (h : v ≠ 0) : v.fdiv (if v < 0 then -((Nat.gcd u.natAbs v.natAbs : Nat) : Int) else ((Nat.gcd u.natAbs v.natAbs : Nat) : Int)) = lwD u v := by
  have g := gcd_pos (u := u) h
  unfold lwD
  have d : (Nat.gcd u.natAbs v.natAbs : Int) ∣ v := by
    have := Nat.gcd_dvd_right u.natAbs v.natAbs
    exact Int.ofNat_dvd_left.mpr this
  obtain ⟨k, hk⟩ := d
  by_cases c : v < 0
  · rw [if_pos c]
    have e0 : ((v.natAbs : Nat) : Int) = -v := by omega
    rw [e0]
    generalize ((Nat.gcd u.natAbs v.natAbs : Nat) : Int) = gg at *
    subst hk
    have e : gg * k = (-gg) * (-k) := by rw [Int.neg_mul_neg]
    have e2 : -(gg * k) = gg * (-k) := by rw [Int.mul_neg]
    rw [e2]
    conv => lhs; rw [e]
    rw [Int.mul_fdiv_cancel_left _ (by omega), Int.mul_fdiv_cancel_left _ (by omega)]
  · rw [if_neg c]
    have e0 : ((v.natAbs : Nat) : Int) = v := by omega
    rw [e0]
/-- already lowered: it is itself -/
theorem lw_self {u v : Int} (h : 0 < v) : (lwN u v = u ∧ lwD u v = v) ↔ Nat.gcd u.natAbs v.natAbs = 1 := by
  have g := gcd_pos (u := u) (v := v) (by omega)
  constructor
  · rintro ⟨_, h2⟩
    unfold lwD at h2
    have e0 : ((v.natAbs : Nat) : Int) = v := by omega
    rw [e0, Int.fdiv_eq_ediv_of_nonneg _ (by omega)] at h2
    have d : (Nat.gcd u.natAbs v.natAbs : Int) ∣ v := Int.ofNat_dvd_left.mpr (Nat.gcd_dvd_right u.natAbs v.natAbs)
    have e := Int.ediv_mul_cancel d
    rw [h2] at e
    have : ((Nat.gcd u.natAbs v.natAbs : Nat) : Int) = 1 := by
      have e3 : v * ((Nat.gcd u.natAbs v.natAbs : Nat) : Int) = v * 1 := by rw [e, Int.mul_one]
      exact Int.eq_of_mul_eq_mul_left (by omega) e3
    omega
  · intro e
    unfold lwN lwD sg
    rw [e, if_pos h, Int.one_mul]
    have e0 : ((v.natAbs : Nat) : Int) = v := by omega
    rw [e0]
    exact ⟨by simp, by simp⟩

/-! ### the law's draws -/
structure Bx where
  x : Int
  y : Int
  z : Int
abbrev bxl (b : Bx) : List PyData := [.int b.x, .int b.y, .int b.z]
def once (b : Bx) : Int := ((b.y + 48271 * (b.z + 1)) * (39373 + (b.z + 1))).fmod 2147483647
def twice (b : Bx) : Int := ((once b + (b.z + 1) + b.y.fdiv 1000003) * ((once b).fmod 40009 + 7)).fmod 2147483629
def tkR (b : Bx) (n : Int) : Int := if 0 < b.x then b.x.fmod n else (((twice b * 48271 + once b).fmod 2147483587).fdiv 64).fmod n
def tkB (b : Bx) (n : Int) : Bx := if 0 < b.x then ⟨b.x.fdiv n, b.y, b.z⟩ else ⟨b.x, b.y, b.z + 1⟩
theorem fmod_r {a n : Int} (h : 0 < n) : 0 ≤ a.fmod n ∧ a.fmod n < n := by
  rw [Int.fmod_eq_emod_of_nonneg a (by omega)]
  exact ⟨Int.emod_nonneg _ (by omega), Int.emod_lt_of_pos _ h⟩
theorem tk_r {b : Bx} {n : Int} (h : 0 < n) : 0 ≤ tkR b n ∧ tkR b n < n := by
  unfold tkR
  split <;> exact fmod_r h
/-- the box has been asked so many times at most -/
def Bk (c : Nat) (b : Bx) : Prop := 0 ≤ b.z ∧ b.z ≤ (c : Int)
theorem Bk.next {c : Nat} {b : Bx} {n : Int} (h : Bk c b) : Bk (c + 1) (tkB b n) := by
  unfold Bk tkB at *
  split
  · exact ⟨h.1, by have := h.2; show b.z ≤ ((c + 1 : Nat) : Int); omega⟩
  · exact ⟨by have := h.1; show 0 ≤ b.z + 1; omega, by have := h.2; show b.z + 1 ≤ ((c + 1 : Nat) : Int); omega⟩
theorem Bk.mono {c d : Nat} {b : Bx} (h : Bk c b) (e : c ≤ d) : Bk d b := ⟨h.1, by have := h.2; omega⟩
end Km
namespace Km
open PySem L2 Pw
theorem gs {s : Sto} {l : Nat} {X Y : List PyData} (h : s[l]? = some Y) : (s.set l X)[l]? = some X := List.getElem?_set_self (List.getElem?_eq_some_iff.mp h).1
theorem cm_r {i j : Int} (h1 : -(2 ^ 64) < j) (h2 : j < 2 ^ 64) : CM i j := cm_mk (.inr ⟨h1, h2⟩)
theorem cm_l {i j : Int} (h1 : -(2 ^ 64) < i) (h2 : i < 2 ^ 64) : CM i j := cm_mk (.inl ⟨h1, h2⟩)
theorem cm_fm7 {i a : Int} : CM i (a.fmod 40009 + 7) := by
  have := fmod_r (a := a) (n := 40009) (by decide)
  exact cm_r (by omega) (by omega)
theorem cm_if {i : Int} {b : Bool} : CM i (if b then 1 else 0) := by
  cases b
  · exact cm_r (by decide) (by decide)
  · exact cm_r (by decide) (by decide)
theorem cf_c {i j : Int} (h : j ≠ 0) (h2 : j.natAbs < 2 ^ 30) : CF i j := cf_sm h (n := 30) ⟨h2⟩
theorem cast_fmod {p q : Nat} (h : 0 < q) : (p : Int).fmod (q : Int) = ((p % q : Nat) : Int) := by
  rw [Int.fmod_eq_emod_of_nonneg _ (by omega), Int.natCast_emod]
theorem abs_if (v : Int) : (if v < 0 then -v else v) = ((v.natAbs : Nat) : Int) := by
  split <;> omega
/-! ### data equal to themselves -/
mutual
theorem eqv_self : ∀ d : PyData, d.canLay0 = true → PyData.eqv d d = true
  | .none, _ => rfl
  | .bool b, _ => by simp [PyData.eqv]
  | .int i, _ => by simp [PyData.eqv]
  | .str x, _ => by simp [PyData.eqv]
  | .list xs, h => by
    simp only [PyData.eqv]
    exact eqvAll_self xs (by simpa [PyData.canLay0] using h)
  | .tuple xs, h => by
    simp only [PyData.eqv]
    exact eqvAll_self xs (by simpa [PyData.canLay0] using h)
  | .dict _, h => by simp [PyData.canLay0] at h
theorem eqvAll_self : ∀ ds : List PyData, PyData.canLayAll0 ds = true → PyData.eqvAll ds ds = true
  | [], _ => rfl
  | d :: ds, h => by
    have h' : d.canLay0 = true ∧ PyData.canLayAll0 ds = true := by simpa [PyData.canLayAll0] using h
    simp only [PyData.eqvAll, eqv_self d h'.1, eqvAll_self ds h'.2, Bool.and_self]
end
theorem lay_mem : ∀ {ds : List PyData} {i : Nat} {d : PyData}, PyData.canLayAll0 ds = true → ds[i]? = some d → d.canLay0 = true
  | e :: ds, 0, d, h, g => by
    cases g
    have h' : e.canLay0 = true ∧ PyData.canLayAll0 ds = true := by simpa [PyData.canLayAll0] using h
    exact h'.1
  | e :: ds, i + 1, d, h, g => by
    have h' : e.canLay0 = true ∧ PyData.canLayAll0 ds = true := by simpa [PyData.canLayAll0] using h
    exact lay_mem (ds := ds) (i := i) h'.2 g
theorem dep_mem : ∀ {ds : List PyData} {i : Nat} {d : PyData}, ds[i]? = some d → d.depth ≤ PyData.depthAll ds
  | e :: ds, 0, d, g => by
    cases g
    simp only [PyData.depthAll]
    exact Nat.le_max_left _ _
  | e :: ds, i + 1, d, g => by
    simp only [PyData.depthAll]
    exact Nat.le_trans (dep_mem (ds := ds) (i := i) g) (Nat.le_max_right _ _)
mutual
def nod : PyData → Nat
  | .list xs => nodAll xs
  | .tuple xs => nodAll xs
  | _ => 0
def nodAll : List PyData → Nat
  | [] => 0
  | x :: xs => nod x + 1 + nodAll xs
end
theorem nod_len : ∀ ds : List PyData, ds.length ≤ nodAll ds
  | [] => Nat.le_refl _
  | d :: ds => by
    have := nod_len ds
    simp only [List.length_cons, nodAll]
    omega
theorem nod_mem : ∀ {ds : List PyData} {i : Nat} {d : PyData}, ds[i]? = some d → nod d ≤ nodAll ds
  | e :: ds, 0, d, g => by
    cases g
    simp only [nodAll]
    omega
  | e :: ds, i + 1, d, g => by
    have := nod_mem (ds := ds) (i := i) g
    simp only [nodAll]
    omega
theorem shaped_of {d : PyData} (h : d.canLay0 = true) (h2 : d.depth ≤ 64) : SeqAt.shaped d = true := by
  unfold SeqAt.shaped
  rw [h, decide_eq_true h2, Bool.and_self]
theorem all_true {α : Type} (ds : List α) : (ds.map fun _ => true).all id = true := by
  induction ds with
  | nil => rfl
  | cons d ds ih => simpa using ih
/-! ### the law's box -/
def cell (ns : List Int) (k : Int) : Int := if k < (ns.length : Int) then (ns[k.toNat]?).getD 0 else 0
def mkB (c k : Int) : Bx := ⟨(if c < 0 then -c else c) * (if decide ((10 : Int) ^ (18 : Int).toNat ≤ (if c < 0 then -c else c)) = true then 1 else 0), c.fmod 2305843009213693951 + 39373 * k + 17, 0⟩
theorem atI_cell {ns : List Int} {k : Int} (h0 : 0 ≤ k) (h : k < (ns.length : Int)) : atI ns k = some (cell ns k) := by
  unfold cell
  rw [if_pos h]
  have e : k = ((k.toNat : Nat) : Int) := (Int.toNat_of_nonneg h0).symm
  have hl : k.toNat < ns.length := by omega
  have h3 : ns[k.toNat]? = some ns[k.toNat] := List.getElem?_eq_getElem hl
  rw [h3]
  show atI ns k = some ns[k.toNat]
  conv => lhs; rw [e]
  exact atI_nat h3
theorem bk_mk {c k : Int} : Bk 0 (mkB c k) := ⟨Int.le_refl _, Int.le_refl _⟩
/-! ### draws -/
def drN (b : Bx) (n : Int) : Int := tkR b (2 * n + 1) - n
def drD (b : Bx) (n : Int) : Int := (([1, 1, 1, 2, 3, 4] : List Int)[(tkR (tkB b (2 * n + 1)) 6).toNat]?).getD 1
def drB (b : Bx) (n : Int) : Bx := tkB (tkB b (2 * n + 1)) 6
theorem drN_le {b : Bx} {n : Int} (h : 0 ≤ n) : -n ≤ drN b n ∧ drN b n ≤ n := by
  have := tk_r (b := b) (n := 2 * n + 1) (by omega)
  unfold drN
  omega
theorem six_get : ∀ i : Nat, i < 6 → ∃ v : Int, ([1, 1, 1, 2, 3, 4] : List Int)[i]? = some v ∧ 1 ≤ v ∧ v ≤ 4
  | 0, _ => ⟨1, rfl, by decide, by decide⟩
  | 1, _ => ⟨1, rfl, by decide, by decide⟩
  | 2, _ => ⟨1, rfl, by decide, by decide⟩
  | 3, _ => ⟨2, rfl, by decide, by decide⟩
  | 4, _ => ⟨3, rfl, by decide, by decide⟩
  | 5, _ => ⟨4, rfl, by decide, by decide⟩
  | i + 6, h => absurd h (by omega)
theorem drD_le {b : Bx} {n : Int} : 1 ≤ drD b n ∧ drD b n ≤ 4 := by
  have := tk_r (b := tkB b (2 * n + 1)) (n := 6) (by decide)
  obtain ⟨v, h, h1, h2⟩ := six_get (tkR (tkB b (2 * n + 1)) 6).toNat (by omega)
  unfold drD
  rw [h]
  exact ⟨h1, h2⟩
theorem drD_at {b : Bx} {n : Int} : ([.int 1, .int 1, .int 1, .int 2, .int 3, .int 4] : List PyData)[(tkR (tkB b (2 * n + 1)) 6).toNat]? = some (.int (drD b n)) := by
  have := tk_r (b := tkB b (2 * n + 1)) (n := 6) (by decide)
  obtain ⟨v, h, h1, h2⟩ := six_get (tkR (tkB b (2 * n + 1)) 6).toNat (by omega)
  have e : ([.int 1, .int 1, .int 1, .int 2, .int 3, .int 4] : List PyData) = ([1, 1, 1, 2, 3, 4] : List Int).map PyData.int := rfl
  unfold drD
  rw [e, List.getElem?_map, h]
  rfl
theorem Bk.draw {c : Nat} {b : Bx} {n : Int} (h : Bk c b) : Bk (c + 2) (drB b n) := (h.next (n := 2 * n + 1)).next
end Km
namespace Km
open PySem L2 Pw
theorem log_sm {n : Nat} {i : Int} (h : Sm n i) (hn : 0 < n) : i.natAbs.log2 < n := PySem.Flt.log2_lt_of hn h.lt
theorem shown_int {i : Int} (h : Sm 1000 i) : (PyData.shown (.int i)).length ≤ 1001 := by
  have e := int_text_length_le (k := 1000) (by decide) (log_sm h (by decide))
  show (Str.ofString (toString i)).length ≤ 1001
  rw [ofString_length]
  omega
/-- a thing within a thing -/
structure Lf (x : PyData) : Prop where
  sh : PyData.showable x = true
  nd : PyData.hasDict x = false
  dp : x.depth ≤ 1
  ls : x.leavesShort 1002 = true
  wt : x.weight ≤ 1000
  ly : x.canLay0 = true
  sm : ∀ a, x = .int a → Sm 1000 a
theorem lf_int {i : Int} (h : Sm 1000 i) : Lf (.int i) := by
  have hl := log_sm h (by decide)
  refine ⟨decide_eq_true (by omega), rfl, Nat.le_of_ble_eq_true rfl, ?_, ?_, rfl, fun a e => by cases e; exact h⟩
  · show decide ((PyData.shown (.int i)).length ≤ 1002) = true
    exact decide_eq_true (Nat.le_trans (shown_int h) (by decide))
  · show (if i == 0 then 0 else i.natAbs.log2 + 1) ≤ 1000
    split <;> omega
theorem lf_bool {b : Bool} : Lf (.bool b) := ⟨rfl, rfl, Nat.le_of_ble_eq_true rfl, rfl, Nat.le_of_ble_eq_true rfl, rfl, fun a e => by cases e⟩
theorem lf_none : Lf .none := ⟨rfl, rfl, Nat.le_of_ble_eq_true rfl, rfl, Nat.le_of_ble_eq_true rfl, rfl, fun a e => by cases e⟩
theorem lf_s1 : Lf (.str "1") := ⟨rfl, rfl, Nat.le_of_ble_eq_true rfl, by decide +kernel, by decide +kernel, by decide +kernel, fun a e => by cases e⟩
theorem lf_t1 : Lf (.tuple [.int 1]) := ⟨by decide +kernel, by decide +kernel, by decide +kernel, by decide +kernel, by decide +kernel, by decide +kernel, fun a e => by cases e⟩
theorem lf_l1 : Lf (.list [.int 1]) := ⟨by decide +kernel, by decide +kernel, by decide +kernel, by decide +kernel, by decide +kernel, by decide +kernel, fun a e => by cases e⟩
/-- a thing -/
structure Th (d : PyData) : Prop where
  sh : PyData.showable d = true
  nd : PyData.hasDict d = false
  dp : d.depth ≤ 60
  ln : d.shown.length ≤ 16000000
  sm : ∀ a b, d = .tuple [.int a, .int b] → Sm 4000 a ∧ Sm 4000 b
theorem th_mk {d : PyData} (sh : PyData.showable d = true) (nd : PyData.hasDict d = false) (dp : d.depth ≤ 60) (ls : d.leavesShort 1002 = true) (wt : d.weight ≤ 10000) (sm : ∀ a b, d = .tuple [.int a, .int b] → Sm 4000 a ∧ Sm 4000 b) : Th d :=
  ⟨sh, nd, dp, by
    have h := PyData.shown_le 1002 (by decide) d ls
    have h2 : (1002 + 2) * d.weight ≤ 1004 * 10000 := Nat.mul_le_mul (by decide) wt
    omega, sm⟩
theorem th_lf {x : PyData} (h : Lf x) (hn : ∀ ds, x ≠ .tuple ds) : Th x := th_mk h.sh h.nd (Nat.le_trans h.dp (by decide)) h.ls (Nat.le_trans h.wt (by decide)) fun a b e => absurd e (hn _)
theorem th_all {ds : List PyData} (h : ∀ x ∈ ds, Lf x) (hl : ds.length ≤ 5) : PyData.showableAll ds = true ∧ PyData.hasDictAll ds = false ∧ PyData.depthAll ds ≤ 1 ∧ PyData.leavesShortAll 1002 ds = true ∧ PyData.weightAll ds ≤ 1001 * ds.length := by
  induction ds with
  | nil => exact ⟨rfl, rfl, Nat.le_of_ble_eq_true rfl, rfl, Nat.le_of_ble_eq_true rfl⟩
  | cons x ds ih =>
    obtain ⟨h1, h2, h3, h4, h5⟩ := ih (fun y hy => h y (List.mem_cons_of_mem _ hy)) (by simp at hl; omega)
    have hx := h x (List.mem_cons_self ..)
    refine ⟨?_, ?_, ?_, ?_, ?_⟩
    · simp only [PyData.showableAll, hx.sh, h1, Bool.and_self]
    · simp only [PyData.hasDictAll, hx.nd, h2, Bool.or_self]
    · simp only [PyData.depthAll]
      exact Nat.max_le.mpr ⟨hx.dp, h3⟩
    · simp only [PyData.leavesShortAll, hx.ls, h4, Bool.and_self]
    · have := hx.wt
      simp only [PyData.weightAll, List.length_cons]
      omega
theorem th_tup {ds : List PyData} (h : ∀ x ∈ ds, Lf x) (hl : ds.length ≤ 5) : Th (.tuple ds) := by
  obtain ⟨h1, h2, h3, h4, h5⟩ := th_all h hl
  refine th_mk (by simp only [PyData.showable, h1]) (by simp only [PyData.hasDict, h2]) (by simp only [PyData.depth]; omega) (by simp only [PyData.leavesShort, h4]) (by simp only [PyData.weight]; omega) fun a b e => ?_
  cases e
  exact ⟨((h (.int a) (by simp)).sm a rfl).mono, ((h (.int b) (by simp)).sm b rfl).mono⟩
theorem th_lst {ds : List PyData} (h : ∀ x ∈ ds, Lf x) (hl : ds.length ≤ 5) : Th (.list ds) := by
  obtain ⟨h1, h2, h3, h4, h5⟩ := th_all h hl
  exact th_mk (by simp only [PyData.showable, h1]) (by simp only [PyData.hasDict, h2]) (by simp only [PyData.depth]; omega) (by simp only [PyData.leavesShort, h4]) (by simp only [PyData.weight]; omega) fun a b e => by cases e
theorem th_s : Th (.str "1/2") := th_mk rfl rfl (Nat.le_of_ble_eq_true rfl) (by decide +kernel) (by decide +kernel) fun a b e => by cases e
end Km
namespace Km
open PySem L2 Pw
theorem lw_one {u : Int} : lwN u 1 = u ∧ lwD u 1 = 1 := (lw_self (u := u) (v := 1) (by decide)).mpr (by
  show Nat.gcd u.natAbs 1 = 1
  exact Nat.gcd_one_right _)
/-- what comes of a draw from a list of so many -/
theorem pick {ds : List PyData} {b : Bx} (h : 0 < ds.length) : ∃ d, ds[(tkR b (ds.length : Nat)).toNat]? = some d ∧ d ∈ ds := by
  have hr := tk_r (b := b) (n := (ds.length : Nat)) (by omega)
  have hl : (tkR b (ds.length : Nat)).toNat < ds.length := by omega
  exact ⟨_, List.getElem?_eq_getElem hl, List.getElem_mem hl⟩
end Km
namespace K01
open PySem L2 Pw
def topS (i : Nat) : Stmt := PySem.Challenge.pw_pegwishes_k01_fractions_reckoned.main.body.getD i (.Pass ⟨0, 0, 0, 0⟩)
abbrev s_is_number : Stmt := topS 4
abbrev N_is_number : List Str := ["thing"]
theorem sc_is_number : FnScope N_is_number ["thing"] (defScope s_is_number) := ⟨rfl, rfl, rfl, by decide +kernel, rfl, by decide +kernel, by decide +kernel⟩
abbrev s_is_frac : Stmt := topS 6
abbrev N_is_frac : List Str := ["thing", "top", "bottom"]
theorem sc_is_frac : FnScope N_is_frac ["thing"] (defScope s_is_frac) := ⟨rfl, rfl, rfl, by decide +kernel, rfl, by decide +kernel, by decide +kernel⟩
abbrev s_frac : Stmt := topS 7
abbrev N_frac : List Str := ["top", "bottom", "shared"]
theorem sc_frac : FnScope N_frac ["top", "bottom"] (defScope s_frac) := ⟨rfl, rfl, rfl, by decide +kernel, rfl, by decide +kernel, by decide +kernel⟩
abbrev s_plus : Stmt := topS 8
abbrev N_plus : List Str := ["one", "other"]
theorem sc_plus : FnScope N_plus ["one", "other"] (defScope s_plus) := ⟨rfl, rfl, rfl, by decide +kernel, rfl, by decide +kernel, by decide +kernel⟩
abbrev s_minus : Stmt := topS 9
abbrev N_minus : List Str := ["one", "other"]
theorem sc_minus : FnScope N_minus ["one", "other"] (defScope s_minus) := ⟨rfl, rfl, rfl, by decide +kernel, rfl, by decide +kernel, by decide +kernel⟩
abbrev s_times : Stmt := topS 10
abbrev N_times : List Str := ["one", "other"]
theorem sc_times : FnScope N_times ["one", "other"] (defScope s_times) := ⟨rfl, rfl, rfl, by decide +kernel, rfl, by decide +kernel, by decide +kernel⟩
abbrev s_over : Stmt := topS 11
abbrev N_over : List Str := ["one", "other"]
theorem sc_over : FnScope N_over ["one", "other"] (defScope s_over) := ⟨rfl, rfl, rfl, by decide +kernel, rfl, by decide +kernel, by decide +kernel⟩
abbrev s_sign_of : Stmt := topS 12
abbrev N_sign_of : List Str := ["one"]
theorem sc_sign_of : FnScope N_sign_of ["one"] (defScope s_sign_of) := ⟨rfl, rfl, rfl, by decide +kernel, rfl, by decide +kernel, by decide +kernel⟩
abbrev s_floor_of : Stmt := topS 13
abbrev N_floor_of : List Str := ["one"]
theorem sc_floor_of : FnScope N_floor_of ["one"] (defScope s_floor_of) := ⟨rfl, rfl, rfl, by decide +kernel, rfl, by decide +kernel, by decide +kernel⟩
abbrev s__law_cell_at : Stmt := topS 15
abbrev N__law_cell_at : List Str := ["_law_script", "_law_k"]
theorem sc__law_cell_at : FnScope N__law_cell_at ["_law_script", "_law_k"] (defScope s__law_cell_at) := ⟨rfl, rfl, rfl, by decide +kernel, rfl, by decide +kernel, by decide +kernel⟩
abbrev s__law_box : Stmt := topS 16
abbrev N__law_box : List Str := ["_law_script", "_law_k", "_law_cell"]
theorem sc__law_box : FnScope N__law_box ["_law_script", "_law_k"] (defScope s__law_box) := ⟨rfl, rfl, rfl, by decide +kernel, rfl, by decide +kernel, by decide +kernel⟩
abbrev s__law_take : Stmt := topS 17
abbrev N__law_take : List Str := ["_law_box_here", "_law_size", "_law_found", "_law_once", "_law_twice"]
theorem sc__law_take : FnScope N__law_take ["_law_box_here", "_law_size"] (defScope s__law_take) := ⟨rfl, rfl, rfl, by decide +kernel, rfl, by decide +kernel, by decide +kernel⟩
abbrev s__law_same : Stmt := topS 18
abbrev N__law_same : List Str := ["_law_found", "_law_due", "_law_here", "_law_there"]
theorem sc__law_same : FnScope N__law_same ["_law_found", "_law_due"] (defScope s__law_same) := ⟨rfl, rfl, rfl, by decide +kernel, rfl, by decide +kernel, by decide +kernel⟩
abbrev s__law_of : Stmt := topS 19
abbrev N__law_of : List Str := ["_law_box_here", "_law_some"]
theorem sc__law_of : FnScope N__law_of ["_law_box_here", "_law_some"] (defScope s__law_of) := ⟨rfl, rfl, rfl, by decide +kernel, rfl, by decide +kernel, by decide +kernel⟩
abbrev s__law_frac : Stmt := topS 20
abbrev N__law_frac : List Str := ["_law_upper", "_law_under", "_law_big", "_law_small", "_law_sign"]
theorem sc__law_frac : FnScope N__law_frac ["_law_upper", "_law_under"] (defScope s__law_frac) := ⟨rfl, rfl, rfl, by decide +kernel, rfl, by decide +kernel, by decide +kernel⟩
abbrev s__law_plus : Stmt := topS 21
abbrev N__law_plus : List Str := ["_law_first", "_law_second"]
theorem sc__law_plus : FnScope N__law_plus ["_law_first", "_law_second"] (defScope s__law_plus) := ⟨rfl, rfl, rfl, by decide +kernel, rfl, by decide +kernel, by decide +kernel⟩
abbrev s__law_less : Stmt := topS 22
abbrev N__law_less : List Str := ["_law_first", "_law_second"]
theorem sc__law_less : FnScope N__law_less ["_law_first", "_law_second"] (defScope s__law_less) := ⟨rfl, rfl, rfl, by decide +kernel, rfl, by decide +kernel, by decide +kernel⟩
abbrev s__law_times : Stmt := topS 23
abbrev N__law_times : List Str := ["_law_first", "_law_second"]
theorem sc__law_times : FnScope N__law_times ["_law_first", "_law_second"] (defScope s__law_times) := ⟨rfl, rfl, rfl, by decide +kernel, rfl, by decide +kernel, by decide +kernel⟩
abbrev s__law_over : Stmt := topS 24
abbrev N__law_over : List Str := ["_law_first", "_law_second"]
theorem sc__law_over : FnScope N__law_over ["_law_first", "_law_second"] (defScope s__law_over) := ⟨rfl, rfl, rfl, by decide +kernel, rfl, by decide +kernel, by decide +kernel⟩
abbrev s__law_draw : Stmt := topS 25
abbrev N__law_draw : List Str := ["_law_box_here", "_law_upper"]
theorem sc__law_draw : FnScope N__law_draw ["_law_box_here", "_law_upper"] (defScope s__law_draw) := ⟨rfl, rfl, rfl, by decide +kernel, rfl, by decide +kernel, by decide +kernel⟩
abbrev s__law_is_lowered : Stmt := topS 26
abbrev N__law_is_lowered : List Str := ["_law_thing", "_law_part"]
theorem sc__law_is_lowered : FnScope N__law_is_lowered ["_law_thing"] (defScope s__law_is_lowered) := ⟨rfl, rfl, rfl, by decide +kernel, rfl, by decide +kernel, by decide +kernel⟩
abbrev s__law_told_right : Stmt := topS 27
abbrev N__law_told_right : List Str := ["_law_first", "_law_second", "_law_found", "_law_due"]
theorem sc__law_told_right : FnScope N__law_told_right ["_law_first", "_law_second"] (defScope s__law_told_right) := ⟨rfl, rfl, rfl, by decide +kernel, rfl, by decide +kernel, by decide +kernel⟩
abbrev s__law_one_right : Stmt := topS 28
abbrev N__law_one_right : List Str := ["_law_first", "_law_upper", "_law_under", "_law_sign", "_law_floor", "_law_found"]
theorem sc__law_one_right : FnScope N__law_one_right ["_law_first"] (defScope s__law_one_right) := ⟨rfl, rfl, rfl, by decide +kernel, rfl, by decide +kernel, by decide +kernel⟩
abbrev s_law : Stmt := topS 29
abbrev N_law : List Str := ["_law_script", "_law_k", "_law_box_here", "_law_turn", "_law_upper", "_law_under", "_law_due", "_law_told", "_law_some", "_law_first", "_law_second", "_law_at", "_law_bent", "_law_own", "_law_things", "_law_thing", "_law_kept", "_law_here"]
theorem sc_law : FnScope N_law ["_law_script"] (defScope s_law) := ⟨rfl, rfl, rfl, by decide +kernel, rfl, by decide +kernel, by decide +kernel⟩
theorem bt_abs : bootBuiltins "abs" = some (.builtin "abs") := by decide +kernel
theorem bt_all : bootBuiltins "all" = some (.builtin "all") := by decide +kernel
theorem bt_bool : bootBuiltins "bool" = some (.type "bool") := by decide +kernel
theorem bt_int : bootBuiltins "int" = some (.type "int") := by decide +kernel
theorem bt_isinstance : bootBuiltins "isinstance" = some (.builtin "isinstance") := by decide +kernel
theorem bt_len : bootBuiltins "len" = some (.builtin "len") := by decide +kernel
theorem bt_list : bootBuiltins "list" = some (.type "list") := by decide +kernel
theorem bt_min : bootBuiltins "min" = some (.builtin "min") := by decide +kernel
theorem bt_range : bootBuiltins "range" = some (.type "range") := by decide +kernel
theorem bt_repr : bootBuiltins "repr" = some (.builtin "repr") := by decide +kernel
theorem bt_tuple : bootBuiltins "tuple" = some (.type "tuple") := by decide +kernel
theorem bt_zip : bootBuiltins "zip" = some (.type "zip") := by decide +kernel
structure Zx (mg : Str → Option Value) : Prop where
  z_abs : mg "abs" = none
  z_all : mg "all" = none
  z_bool : mg "bool" = none
  z_int : mg "int" = none
  z_isinstance : mg "isinstance" = none
  z_len : mg "len" = none
  z_list : mg "list" = none
  z_min : mg "min" = none
  z_range : mg "range" = none
  z_repr : mg "repr" = none
  z_tuple : mg "tuple" = none
  z_zip : mg "zip" = none
  z_gcd : mg "gcd" = some (.builtin "math.gcd")
end K01
namespace K01
open PySem L2 Pw Km
section
local macro_rules | `(tactic| walk_at "sd") => `(tactic| first | rfl | assumption | exact Nat.le_of_ble_eq_true rfl | decide | omega | (walk_at "sd2"))
local macro_rules | `(tactic| walk_at "sd2") => `(tactic| first | exact cm_sm (by assumption) (by assumption) | exact cf_sm (by assumption) (by assumption) | ((with_reducible apply gs); (walk_at "sd")) | exact cm_fm7 | exact cm_if | exact cm_l (by omega) (by omega) | exact cm_r (by omega) (by omega) | exact cf_c (by omega) (by omega))
local macro_rules | `(tactic| walk_at "isi") => `(tactic| with_reducible first | exact kit_int | exact kit_bool | exact kit_tuple | exact kit_list | exact kit_str)
local macro_rules | `(tactic| walk_at "und") => `(tactic| with_reducible repeat (first | exact Und.nil | apply Und.cons))
local macro_rules | `(tactic| walk_at "op") => `(tactic| (first
  | with_reducible exact o_add | with_reducible exact o_minus | with_reducible exact o_lt | with_reducible exact o_gt | with_reducible exact o_le | with_reducible exact o_ge | with_reducible exact o_neg
  | with_reducible exact o_isN | with_reducible exact o_isntN | with_reducible exact o_isB | with_reducible exact o_isntB | with_reducible exact o_neS | with_reducible exact o_eqS
  | with_reducible exact o_abs | with_reducible exact o_intB | with_reducible exact o_min2 | with_reducible exact o_max2 | with_reducible exact o_lenL | with_reducible exact o_lenT | with_reducible exact o_lenC | with_reducible exact o_gcd
  | with_reducible apply o_ixT | with_reducible apply o_ixL | with_reducible apply o_ixM | with_reducible apply o_ixS | with_reducible apply o_lenM
  | with_reducible apply o_mul | with_reducible apply o_fdiv | with_reducible apply o_mod | with_reducible apply o_pow | with_reducible apply o_eq | with_reducible apply o_ne | with_reducible apply o_catT | with_reducible apply o_repr | with_reducible apply o_all) <;> walk_at "sd")
local macro_rules | `(tactic| walk_at "opn") => `(tactic| (first
  | with_reducible apply o_cat | with_reducible apply o_repI | with_reducible exact o_listT | with_reducible exact o_listL) <;> walk_at "sd")
local macro_rules | `(tactic| walk_at "ea") => `(tactic| first
  | with_reducible exact eva_nil
  | ((with_reducible apply eva_cons); (walk_at "ev"); (walk_at "ea")))
local macro_rules | `(tactic| walk_at "call") => `(tactic| fail)
local macro_rules | `(tactic| walk_at "evn") => `(tactic| first
  | ((with_reducible apply evn_lstU); (walk_at "ea"); (walk_at "und"); (walk_at "sd"))
  | ((with_reducible apply evn_op); (walk_at "ev"); (walk_at "ev"); (walk_at "opn"))
  | ((with_reducible apply evn_cb); (walk_at "ea"); (walk_at "opn"))
  | ((with_reducible apply evn_call); (walk_at "ea"); (walk_at "call")))
local macro_rules | `(tactic| walk_at "ev") => `(tactic| first
  | with_reducible exact ev_int | with_reducible exact ev_bl | with_reducible exact ev_non | with_reducible exact ev_str
  | ((with_reducible apply ev_var); rfl)
  | ((with_reducible apply ev_op); (walk_at "ev"); (walk_at "ev"); (walk_at "op"))
  | ((with_reducible apply ev_un); (walk_at "ev"); (walk_at "op"))
  | ((with_reducible apply ev_call); (walk_at "ea"); (walk_at "call"))
  | ((with_reducible apply ev_callD); (walk_at "ea"); (intro _ _; exact rxs_1); (walk_at "call"))
  | ((with_reducible apply ev_callK); (walk_at "ea"); rfl; (intro _ _ _ hh; first | exact rxs_swap2 hh | exact rxs_same1 hh); (walk_at "call"))
  | ((with_reducible apply ev_isi); (walk_at "ev"); (walk_at "isi"))
  | ((with_reducible apply ev_isi2); (walk_at "ev"); (walk_at "isi"); (walk_at "isi"))
  | ((with_reducible apply ev_cb); (walk_at "ea"); (walk_at "op"))
  | ((with_reducible apply ev_tupU); (walk_at "ea"); (walk_at "und"); (walk_at "sd"))
  | ((with_reducible apply ev_new); (walk_at "evn"))
  | ((with_reducible apply ev_slT); (walk_at "ev"); (walk_at "eo"); (walk_at "eo"))
  | ((with_reducible apply ev_andV); (walk_at "ev"); (intro _; walk_at "ev"); (intro _; rfl))
  | ((with_reducible apply ev_orV); (walk_at "ev"); (intro _; walk_at "ev"); (intro _; rfl))
  | ((with_reducible apply ev_notV); (walk_at "ev")))
local macro_rules | `(tactic| walk_at "eo") => `(tactic| first
  | with_reducible exact eo_none
  | ((with_reducible apply eo_some); (walk_at "ev")))
local macro_rules | `(tactic| walk_at "et") => `(tactic| first
  | ((with_reducible apply et_test); (walk_at "ev"))
  | ((with_reducible apply et_B); (walk_at "ev"))
  | ((with_reducible apply et_not); (walk_at "et"))
  | ((with_reducible apply et_and); (walk_at "et"); (intro _; walk_at "et"); (intro _; rfl))
  | ((with_reducible apply et_or); (walk_at "et"); (intro _; walk_at "et"); (intro _; rfl)))
local macro_rules | `(tactic| walk_at "w") => `(tactic| first
  | (with_reducible apply w_seq)
  | (with_reducible apply w_next)
  | ((with_reducible apply w_asg); (walk_at "ev"))
  | ((with_reducible apply w_ret); (walk_at "ev"))
  | ((with_reducible apply w_drop); (walk_at "ev"))
  | ((with_reducible apply w_par); (walk_at "ea"))
  | ((with_reducible apply w_tup2); (walk_at "ev"))
  | ((with_reducible apply w_tup3); (walk_at "ev"))
  | ((with_reducible apply w_setI); (walk_at "ev"); (walk_at "ev"); (walk_at "ev"); (walk_at "sd"); (walk_at "sd"))
  | ((with_reducible apply w_if); (walk_at "et")))

variable {P : Program} {w : World} {K : Pw.Fg} {mg : Str → Option Value} {base : Heap} {f : Addr} {fd : FuncData}
/-! ### sign_of, floor_of -/
inductive R_sign : Gr
  | mk {a b s} : R_sign [.d (.tuple [.int a, .int b])] s (.d (.int (if 0 < a then 1 else if a < 0 then -1 else 0))) s
theorem ok_sign (G : Fun K "sign_of" "sign_of" s_sign_of f fd) : FnOk P w K mg base CX0 1 f fd ["one"] (spF K R_sign) := by
  refine G.ok sc_sign_of (spF_len fun xs s x s' h => by cases h; rfl) (fun cdv A outer s H vs Q E hr ⟨M, xs, st, x, st', h, So, rx, q⟩ => ?_)
  cases h with
  | @mk a b =>
  refine ⟨_, (pss_cons (ps_if (pt_cmpR op_gtA (pe_ix (ixk (K := K)) (pv 0) (pe_int) (fun _ _ => rfl)) (pe_int) (nomark _)) (pss_one (ps_ret (pe_int))) pss_nil)
      (pss_cons (ps_if (pt_cmpR op_ltA (pe_ix (ixk (K := K)) (pv 0) (pe_int) (fun _ _ => rfl)) (pe_int) (nomark _)) (pss_one (ps_ret (pe_un un_negA (pe_int)))) pss_nil)
      (pss_one (ps_ret (pe_int))))), ?_⟩
  refine w_run So rx ?_
  try simp only [nox_K, cx_K, List.map_cons, List.map_nil]
  have q' := okr_0 q So.len
  iterate 2 (walk_at "w")
  · intro c
    rw [if_pos (of_decide_eq_true c)] at q'
    walk_at "w"
    exact q'
  · intro c
    rw [if_neg (of_decide_eq_false c)] at q'
    iterate 3 (walk_at "w")
    · intro c
      rw [if_pos (of_decide_eq_true c)] at q'
      walk_at "w"
      exact q'
    · intro c
      rw [if_neg (of_decide_eq_false c)] at q'
      iterate 2 (walk_at "w")
      exact q'
inductive R_floor : Gr
  | mk {a b s} (h : b ≠ 0) (hb : Sm 8000 b) : R_floor [.d (.tuple [.int a, .int b])] s (.d (.int (a.fdiv b))) s
theorem ok_floor (G : Fun K "floor_of" "floor_of" s_floor_of f fd) : FnOk P w K mg base CX0 1 f fd ["one"] (spF K R_floor) := by
  refine G.ok sc_floor_of (spF_len fun xs s x s' h => by cases h; rfl) (fun cdv A outer s H vs Q E hr ⟨M, xs, st, x, st', h, So, rx, q⟩ => ?_)
  cases h with
  | @mk a b _ h hb =>
  refine ⟨_, (pss_one (ps_ret (pe_op op_fdivA (pe_ix (ixk (K := K)) (pv 0) (pe_int) (fun _ _ => rfl)) (pe_ix (ixk (K := K)) (pv 0) (pe_int) (fun _ _ => rfl))))), ?_⟩
  refine w_run So rx ?_
  try simp only [nox_K, cx_K, List.map_cons, List.map_nil]
  have q' := okr_0 q So.len
  have hc : CF a b := cf_sm h hb
  walk_at "w"
  exact q'
/-! ### is_number -/
def isNum (d : PyData) : Bool := isI d && !isB d
inductive R_num : Gr
  | mk {d s} : R_num [.d d] s (.d (.bool (isNum d))) s
theorem ok_num (Z : Zx mg) (G : Fun K "is_number" "is_number" s_is_number f fd) : FnOk P w K mg base CX0 1 f fd ["thing"] (spF K R_num) := by
  refine G.ok sc_is_number (spF_len fun xs s x s' h => by cases h; rfl) (fun cdv A outer s H vs Q E hr ⟨M, xs, st, x, st', h, So, rx, q⟩ => ?_)
  cases h with
  | @mk d =>
  refine ⟨_, (pss_one (ps_ret (pe_and (pe_callB (cbk_isi (K := K)) (by rfl) Z.z_isinstance bt_isinstance (pa_cons (pv 0) (pa_cons (pe_bltn (v := .ty "int") (by rfl) Z.z_int bt_int rfl) pa_nil))) (pe_one (pe_not (pe_callB (cbk_isi (K := K)) (by rfl) Z.z_isinstance bt_isinstance (pa_cons (pv 0) (pa_cons (pe_bltn (v := .ty "bool") (by rfl) Z.z_bool bt_bool rfl) pa_nil)))))))), ?_⟩
  refine w_run So rx ?_
  try simp only [nox_K, cx_K, List.map_cons, List.map_nil]
  have q' := okr_0 q So.len
  walk_at "w"
  exact q'
/-! ### frac -/
abbrev q2 (a b : Int) : PyData := .tuple [.int a, .int b]
abbrev lw (u v : Int) : PyData := .tuple [.int (lwN u v), .int (lwD u v)]
theorem sh2 {a b : Int} : SeqAt.shaped (q2 a b) = true := by rfl
theorem shI {a : Int} : SeqAt.shaped (.int a) = true := by rfl
inductive R_frac : Gr
  | mk {u v s} (h : v ≠ 0) (hu : Sm 4000 u) (hv : Sm 4000 v) : R_frac [.d (.int u), .d (.int v)] s (.d (lw u v)) s
theorem ok_frac (Z : Zx mg) (G : FunD K "frac" "frac" (defArgs s_frac) (defBody s_frac) (defScope s_frac) [.int 1] [] f fd) : FnOk P w K mg base CX0 1 f fd ["top", "bottom"] (spF K R_frac) := by
  refine G.ok sc_frac (spF_len fun xs s x s' h => by cases h; rfl) (fun cdv A outer s H vs Q E hr ⟨M, xs, st, x, st', h, So, rx, q⟩ => ?_)
  cases h with
  | @mk u v _ h hu hv =>
  refine ⟨_, (pss_cons (ps_if (pt_cmpR (opk_eq (K := K) hr.units) (pv 1) (pe_int) (nomark _)) (pss_one ps_never) pss_nil)
      (pss_cons (ps_set (i := 2) sc_frac.nd rfl (.inl rfl) (pe_callBfun cr_gcd (by rfl) Z.z_gcd (pa_cons (pv 0) (pa_cons (pv 1) pa_nil))))
      (pss_cons (ps_if (pt_cmpR op_ltA (pv 1) (pe_int) (nomark _)) (pss_one (ps_set (i := 2) sc_frac.nd rfl (.inl rfl) (pe_un un_negA (pv 2)))) pss_nil)
      (pss_one (ps_ret (pe_tup (pa_cons (pe_op op_fdivA (pv 0) (pv 2)) (pa_cons (pe_op op_fdivA (pv 1) (pv 2)) pa_nil)))))))), ?_⟩
  refine w_run So rx ?_
  try simp only [nox_K, cx_K, List.map_cons, List.map_nil]
  have q' := okr_0 q So.len
  have hg : Sm 4000 ((Nat.gcd u.natAbs v.natAbs : Nat) : Int) := hv.le (by
    rw [Int.natAbs_natCast]
    exact Nat.le_of_dvd (by omega) (Nat.gcd_dvd_right _ _))
  have g0 := gcd_pos (u := u) h
  iterate 2 (walk_at "w")
  · intro c
    exact absurd (beq_iff_eq.mp c) h
  · intro _
    iterate 5 (walk_at "w")
    · intro c
      have hc : v < 0 := of_decide_eq_true c
      have e1 := frac_N (u := u) h
      have e2 := frac_D (u := u) h
      rw [if_pos hc] at e1 e2
      have c1 : ∀ i, CF i (-((Nat.gcd u.natAbs v.natAbs : Nat) : Int)) := fun i => cf_sm (by omega) hg.neg
      have c2 := c1 u
      have c3 := c1 v
      iterate 2 (walk_at "w")
      exact q'.is (by rw [e1, e2])
    · intro c
      have hc : ¬ v < 0 := of_decide_eq_false c
      have e1 := frac_N (u := u) h
      have e2 := frac_D (u := u) h
      rw [if_neg hc] at e1 e2
      have c1 : ∀ i, CF i ((Nat.gcd u.natAbs v.natAbs : Nat) : Int) := fun i => cf_sm (by omega) hg
      have c2 := c1 u
      have c3 := c1 v
      iterate 2 (walk_at "w")
      exact q'.is (by rw [e1, e2])
/-! ### plus, minus, times, over -/
inductive R_plus : Gr
  | mk {a b c d s} (hb : b ≠ 0) (hd : d ≠ 0) (ha' : Sm 1000 a) (hb' : Sm 1000 b) (hc' : Sm 1000 c) (hd' : Sm 1000 d) : R_plus [.d (q2 a b), .d (q2 c d)] s (.d (lw (a * d + c * b) (b * d))) s
inductive R_minus : Gr
  | mk {a b c d s} (hb : b ≠ 0) (hd : d ≠ 0) (ha' : Sm 1000 a) (hb' : Sm 1000 b) (hc' : Sm 1000 c) (hd' : Sm 1000 d) : R_minus [.d (q2 a b), .d (q2 c d)] s (.d (lw (a * d - c * b) (b * d))) s
inductive R_times : Gr
  | mk {a b c d s} (hb : b ≠ 0) (hd : d ≠ 0) (ha' : Sm 1000 a) (hb' : Sm 1000 b) (hc' : Sm 1000 c) (hd' : Sm 1000 d) : R_times [.d (q2 a b), .d (q2 c d)] s (.d (lw (a * c) (b * d))) s
inductive R_over : Gr
  | mk {a b c d s} (hb : b ≠ 0) (hc : c ≠ 0) (ha' : Sm 1000 a) (hb' : Sm 1000 b) (hc' : Sm 1000 c) (hd' : Sm 1000 d) : R_over [.d (q2 a b), .d (q2 c d)] s (.d (lw (a * d) (b * c))) s
theorem fr_mk {n m : Nat} {u v : Int} {s : Sto} (hu : Sm n u) (hv : Sm m v) (h : v ≠ 0) (hn : n ≤ 4000 := by decide) (hm : m ≤ 4000 := by decide) : R_frac [.d (.int u), .d (.int v)] s (.d (lw u v)) s := .mk h (hu.mono hn) (hv.mono hm)
section
local macro_rules | `(tactic| walk_at "call") => `(tactic| exact fr_mk (by assumption) (by assumption) (by assumption))
theorem ok_plus (c_frac : Cb P w K mg base "frac" 1 [] (spF K R_frac)) (G : Fun K "plus" "plus" s_plus f fd) : FnOk P w K mg base CX0 2 f fd ["one", "other"] (spF K R_plus) := by
  refine G.ok sc_plus (spF_len fun xs s x s' h => by cases h; rfl) (fun cdv A outer s H vs Q E hr ⟨M, xs, st, x, st', h, So, rx, q⟩ => ?_)
  cases h with
  | @mk a b c d _ hb hd ha' hb' hc' hd' =>
  refine ⟨_, (pss_one (ps_ret (pe_cb c_frac (hr.mono (by decide)) (by rfl) (pa_cons (pe_op (opk_plus (K := K)) (pe_op op_times (pe_ix (ixk (K := K)) (pv 0) (pe_int) (fun _ _ => rfl)) (pe_ix (ixk (K := K)) (pv 1) (pe_int) (fun _ _ => rfl))) (pe_op op_times (pe_ix (ixk (K := K)) (pv 1) (pe_int) (fun _ _ => rfl)) (pe_ix (ixk (K := K)) (pv 0) (pe_int) (fun _ _ => rfl)))) (pa_cons (pe_op op_times (pe_ix (ixk (K := K)) (pv 0) (pe_int) (fun _ _ => rfl)) (pe_ix (ixk (K := K)) (pv 1) (pe_int) (fun _ _ => rfl))) pa_nil))))), ?_⟩
  refine w_run So rx ?_
  try simp only [nox_K, cx_K, List.map_cons, List.map_nil]
  have q' := okr_0 q So.len
  have z1 := (ha'.mul hd').add (hc'.mul hb')
  have z2 := hb'.mul hd'
  have z3 : b * d ≠ 0 := Int.mul_ne_zero hb hd
  walk_at "w"
  exact q'
theorem ok_minus (c_frac : Cb P w K mg base "frac" 1 [] (spF K R_frac)) (G : Fun K "minus" "minus" s_minus f fd) : FnOk P w K mg base CX0 2 f fd ["one", "other"] (spF K R_minus) := by
  refine G.ok sc_minus (spF_len fun xs s x s' h => by cases h; rfl) (fun cdv A outer s H vs Q E hr ⟨M, xs, st, x, st', h, So, rx, q⟩ => ?_)
  cases h with
  | @mk a b c d _ hb hd ha' hb' hc' hd' =>
  refine ⟨_, (pss_one (ps_ret (pe_cb c_frac (hr.mono (by decide)) (by rfl) (pa_cons (pe_op op_minus (pe_op op_times (pe_ix (ixk (K := K)) (pv 0) (pe_int) (fun _ _ => rfl)) (pe_ix (ixk (K := K)) (pv 1) (pe_int) (fun _ _ => rfl))) (pe_op op_times (pe_ix (ixk (K := K)) (pv 1) (pe_int) (fun _ _ => rfl)) (pe_ix (ixk (K := K)) (pv 0) (pe_int) (fun _ _ => rfl)))) (pa_cons (pe_op op_times (pe_ix (ixk (K := K)) (pv 0) (pe_int) (fun _ _ => rfl)) (pe_ix (ixk (K := K)) (pv 1) (pe_int) (fun _ _ => rfl))) pa_nil))))), ?_⟩
  refine w_run So rx ?_
  try simp only [nox_K, cx_K, List.map_cons, List.map_nil]
  have q' := okr_0 q So.len
  have z1 := (ha'.mul hd').sub (hc'.mul hb')
  have z2 := hb'.mul hd'
  have z3 : b * d ≠ 0 := Int.mul_ne_zero hb hd
  walk_at "w"
  exact q'
theorem ok_times (c_frac : Cb P w K mg base "frac" 1 [] (spF K R_frac)) (G : Fun K "times" "times" s_times f fd) : FnOk P w K mg base CX0 2 f fd ["one", "other"] (spF K R_times) := by
  refine G.ok sc_times (spF_len fun xs s x s' h => by cases h; rfl) (fun cdv A outer s H vs Q E hr ⟨M, xs, st, x, st', h, So, rx, q⟩ => ?_)
  cases h with
  | @mk a b c d _ hb hd ha' hb' hc' hd' =>
  refine ⟨_, (pss_one (ps_ret (pe_cb c_frac (hr.mono (by decide)) (by rfl) (pa_cons (pe_op op_times (pe_ix (ixk (K := K)) (pv 0) (pe_int) (fun _ _ => rfl)) (pe_ix (ixk (K := K)) (pv 1) (pe_int) (fun _ _ => rfl))) (pa_cons (pe_op op_times (pe_ix (ixk (K := K)) (pv 0) (pe_int) (fun _ _ => rfl)) (pe_ix (ixk (K := K)) (pv 1) (pe_int) (fun _ _ => rfl))) pa_nil))))), ?_⟩
  refine w_run So rx ?_
  try simp only [nox_K, cx_K, List.map_cons, List.map_nil]
  have q' := okr_0 q So.len
  have z1 := ha'.mul hc'
  have z2 := hb'.mul hd'
  have z3 : b * d ≠ 0 := Int.mul_ne_zero hb hd
  walk_at "w"
  exact q'
theorem ok_over (c_frac : Cb P w K mg base "frac" 1 [] (spF K R_frac)) (G : Fun K "over" "over" s_over f fd) : FnOk P w K mg base CX0 2 f fd ["one", "other"] (spF K R_over) := by
  refine G.ok sc_over (spF_len fun xs s x s' h => by cases h; rfl) (fun cdv A outer s H vs Q E hr ⟨M, xs, st, x, st', h, So, rx, q⟩ => ?_)
  cases h with
  | @mk a b c d _ hb hc ha' hb' hc' hd' =>
  refine ⟨_, (pss_one (ps_ret (pe_cb c_frac (hr.mono (by decide)) (by rfl) (pa_cons (pe_op op_times (pe_ix (ixk (K := K)) (pv 0) (pe_int) (fun _ _ => rfl)) (pe_ix (ixk (K := K)) (pv 1) (pe_int) (fun _ _ => rfl))) (pa_cons (pe_op op_times (pe_ix (ixk (K := K)) (pv 0) (pe_int) (fun _ _ => rfl)) (pe_ix (ixk (K := K)) (pv 1) (pe_int) (fun _ _ => rfl))) pa_nil))))), ?_⟩
  refine w_run So rx ?_
  try simp only [nox_K, cx_K, List.map_cons, List.map_nil]
  have q' := okr_0 q So.len
  have z1 := ha'.mul hd'
  have z2 := hb'.mul hc'
  have z3 : b * c ≠ 0 := Int.mul_ne_zero hb hc
  walk_at "w"
  exact q'
end
end
end K01
namespace K01
open PySem L2 Pw Km
section
local macro_rules | `(tactic| walk_at "sd") => `(tactic| first | rfl | assumption | exact Nat.le_of_ble_eq_true rfl | decide | omega | (walk_at "sd2"))
local macro_rules | `(tactic| walk_at "sd2") => `(tactic| first | exact cm_sm (by assumption) (by assumption) | exact cf_sm (by assumption) (by assumption) | ((with_reducible apply gs); (walk_at "sd")) | exact cm_fm7 | exact cm_if | exact cm_l (by omega) (by omega) | exact cm_r (by omega) (by omega) | exact cf_c (by omega) (by omega))
local macro_rules | `(tactic| walk_at "isi") => `(tactic| with_reducible first | exact kit_int | exact kit_bool | exact kit_tuple | exact kit_list | exact kit_str)
local macro_rules | `(tactic| walk_at "und") => `(tactic| with_reducible repeat (first | exact Und.nil | apply Und.cons))
local macro_rules | `(tactic| walk_at "op") => `(tactic| (first
  | with_reducible exact o_add | with_reducible exact o_minus | with_reducible exact o_lt | with_reducible exact o_gt | with_reducible exact o_le | with_reducible exact o_ge | with_reducible exact o_neg
  | with_reducible exact o_isN | with_reducible exact o_isntN | with_reducible exact o_isB | with_reducible exact o_isntB | with_reducible exact o_neS | with_reducible exact o_eqS
  | with_reducible exact o_abs | with_reducible exact o_intB | with_reducible exact o_min2 | with_reducible exact o_max2 | with_reducible exact o_lenL | with_reducible exact o_lenT | with_reducible exact o_lenC | with_reducible exact o_gcd
  | with_reducible apply o_ixT | with_reducible apply o_ixL | with_reducible apply o_ixM | with_reducible apply o_ixS | with_reducible apply o_lenM
  | with_reducible apply o_mul | with_reducible apply o_fdiv | with_reducible apply o_mod | with_reducible apply o_pow | with_reducible apply o_eq | with_reducible apply o_ne | with_reducible apply o_catT | with_reducible apply o_repr | with_reducible apply o_all) <;> walk_at "sd")
local macro_rules | `(tactic| walk_at "opn") => `(tactic| (first
  | with_reducible apply o_cat | with_reducible apply o_repI | with_reducible exact o_listT | with_reducible exact o_listL) <;> walk_at "sd")
local macro_rules | `(tactic| walk_at "ea") => `(tactic| first
  | with_reducible exact eva_nil
  | ((with_reducible apply eva_cons); (walk_at "ev"); (walk_at "ea")))
local macro_rules | `(tactic| walk_at "call") => `(tactic| fail)
local macro_rules | `(tactic| walk_at "evn") => `(tactic| first
  | ((with_reducible apply evn_lstU); (walk_at "ea"); (walk_at "und"); (walk_at "sd"))
  | ((with_reducible apply evn_op); (walk_at "ev"); (walk_at "ev"); (walk_at "opn"))
  | ((with_reducible apply evn_cb); (walk_at "ea"); (walk_at "opn"))
  | ((with_reducible apply evn_call); (walk_at "ea"); (walk_at "call")))
local macro_rules | `(tactic| walk_at "ev") => `(tactic| first
  | with_reducible exact ev_int | with_reducible exact ev_bl | with_reducible exact ev_non | with_reducible exact ev_str
  | ((with_reducible apply ev_var); rfl)
  | ((with_reducible apply ev_op); (walk_at "ev"); (walk_at "ev"); (walk_at "op"))
  | ((with_reducible apply ev_un); (walk_at "ev"); (walk_at "op"))
  | ((with_reducible apply ev_call); (walk_at "ea"); (walk_at "call"))
  | ((with_reducible apply ev_callD); (walk_at "ea"); (intro _ _; exact rxs_1); (walk_at "call"))
  | ((with_reducible apply ev_callK); (walk_at "ea"); rfl; (intro _ _ _ hh; first | exact rxs_swap2 hh | exact rxs_same1 hh); (walk_at "call"))
  | ((with_reducible apply ev_isi); (walk_at "ev"); (walk_at "isi"))
  | ((with_reducible apply ev_isi2); (walk_at "ev"); (walk_at "isi"); (walk_at "isi"))
  | ((with_reducible apply ev_cb); (walk_at "ea"); (walk_at "op"))
  | ((with_reducible apply ev_tupU); (walk_at "ea"); (walk_at "und"); (walk_at "sd"))
  | ((with_reducible apply ev_new); (walk_at "evn"))
  | ((with_reducible apply ev_slT); (walk_at "ev"); (walk_at "eo"); (walk_at "eo"))
  | ((with_reducible apply ev_andV); (walk_at "ev"); (intro _; walk_at "ev"); (intro _; rfl))
  | ((with_reducible apply ev_orV); (walk_at "ev"); (intro _; walk_at "ev"); (intro _; rfl))
  | ((with_reducible apply ev_notV); (walk_at "ev")))
local macro_rules | `(tactic| walk_at "eo") => `(tactic| first
  | with_reducible exact eo_none
  | ((with_reducible apply eo_some); (walk_at "ev")))
local macro_rules | `(tactic| walk_at "et") => `(tactic| first
  | ((with_reducible apply et_test); (walk_at "ev"))
  | ((with_reducible apply et_B); (walk_at "ev"))
  | ((with_reducible apply et_not); (walk_at "et"))
  | ((with_reducible apply et_and); (walk_at "et"); (intro _; walk_at "et"); (intro _; rfl))
  | ((with_reducible apply et_or); (walk_at "et"); (intro _; walk_at "et"); (intro _; rfl)))
local macro_rules | `(tactic| walk_at "w") => `(tactic| first
  | (with_reducible apply w_seq)
  | (with_reducible apply w_next)
  | ((with_reducible apply w_asg); (walk_at "ev"))
  | ((with_reducible apply w_ret); (walk_at "ev"))
  | ((with_reducible apply w_drop); (walk_at "ev"))
  | ((with_reducible apply w_par); (walk_at "ea"))
  | ((with_reducible apply w_tup2); (walk_at "ev"))
  | ((with_reducible apply w_tup3); (walk_at "ev"))
  | ((with_reducible apply w_setI); (walk_at "ev"); (walk_at "ev"); (walk_at "ev"); (walk_at "sd"); (walk_at "sd"))
  | ((with_reducible apply w_if); (walk_at "et")))

variable {P : Program} {w : World} {K : Pw.Fg} {mg : Str → Option Value} {base : Heap} {f : Addr} {fd : FuncData}
/-! ### cells, the box, a draw -/
inductive R_cell : Gr
  | mk {ns k s} (hk : 0 ≤ k) : R_cell [.scr ns, .d (.int k)] s (.d (.int (cell ns k))) s
theorem ok_cell (Z : Zx mg) (G : Fun K "_law_cell_at" "_law_cell_at" s__law_cell_at f fd) : FnOk P w K mg base CX0 1 f fd ["_law_script", "_law_k"] (spF K R_cell) := by
  refine G.ok sc__law_cell_at (spF_len fun xs s x s' h => by cases h; rfl) (fun cdv A outer s H vs Q E hr ⟨M, xs, st, x, st', h, So, rx, q⟩ => ?_)
  cases h with
  | @mk ns k _ hk =>
  refine ⟨_, (pss_cons (ps_if (pt_cmpR op_ltA (pv 1) (pe_callB (cbk_len (K := K)) (by rfl) Z.z_len bt_len (pa_cons (pv 0) pa_nil)) (nomark _)) (pss_one (ps_ret (pe_ix (ixk (K := K)) (pv 0) (pv 1) (fun _ _ => rfl)))) pss_nil)
      (pss_one (ps_ret (pe_int)))), ?_⟩
  refine w_run So rx ?_
  try simp only [nox_K, cx_K, List.map_cons, List.map_nil]
  have q' := okr_0 q So.len
  iterate 2 (walk_at "w")
  · intro c
    have hc := of_decide_eq_true c
    have e := atI_cell hk hc
    walk_at "w"
    exact q'
  · intro c
    have hc := of_decide_eq_false c
    have e : cell ns k = 0 := if_neg hc
    iterate 2 (walk_at "w")
    exact q'.is (by rw [e])
inductive R_box : GrN
  | mk {ns k s} (hk : 0 ≤ k) : R_box [.scr ns, .d (.int k)] s (bxl (mkB (cell ns k) k)) s
theorem ok_box (Z : Zx mg) (c__law_cell_at : Cb P w K mg base "_law_cell_at" 1 [] (spF K R_cell)) (G : Fun K "_law_box" "_law_box" s__law_box f fd) : FnOk P w K mg base CX0 2 f fd ["_law_script", "_law_k"] (spN K R_box) := by
  refine G.ok sc__law_box (spN_len fun xs s x s' h => by cases h; rfl) (fun cdv A outer s H vs Q E hr ⟨M, xs, st, x, st', h, So, rx, q⟩ => ?_)
  cases h with
  | @mk ns k _ hk =>
  refine ⟨_, (pss_cons (ps_set (i := 2) sc__law_box.nd rfl (.inl rfl) (pe_cb c__law_cell_at (hr.mono (by decide)) (by rfl) (pa_cons (pv 0) (pa_cons (pv 1) pa_nil))))
      (pss_one (ps_ret (pe_lst (pa_cons (pe_op op_times (pe_callB cb_abs (by rfl) Z.z_abs bt_abs (pa_cons (pv 2) pa_nil)) (pe_callTy cb_int (by rfl) Z.z_int bt_int (pa_cons (pe_cmpR op_geA (pe_callB cb_abs (by rfl) Z.z_abs bt_abs (pa_cons (pv 2) pa_nil)) (pe_op op_powA (pe_int) (pe_int)) (nomark _)) pa_nil))) (pa_cons (pe_op (opk_plus (K := K)) (pe_op (opk_plus (K := K)) (pe_op op_modA (pv 2) (pe_int)) (pe_op op_times (pe_int) (pv 1))) (pe_int)) (pa_cons (pe_int) pa_nil))))))), ?_⟩
  refine w_run So rx ?_
  try simp only [nox_K, cx_K, List.map_cons, List.map_nil]
  walk_at "w"
  with_reducible apply w_asg
  · with_reducible apply ev_call
    · walk_at "ea"
    · exact .mk hk
  · have hp : CPow 10 18 := ⟨by decide, by decide, by decide⟩
    with_reducible apply w_retN
    · walk_at "evn"
    · exact So.len
    · exact q
inductive R_take : Gr
  | mk {l b n c s} (hl : s[l]? = some (bxl b)) (hn : 0 < n) (hn2 : n < 2 ^ 29) (hc : Bk c b) (hc2 : c ≤ 2 ^ 40) : R_take [.loc l, .d (.int n)] s (.d (.int (tkR b n))) (s.set l (bxl (tkB b n)))
theorem ok_take (G : Fun K "_law_take" "_law_take" s__law_take f fd) : FnOk P w K mg base CX0 1 f fd ["_law_box_here", "_law_size"] (spF K R_take) := by
  refine G.ok sc__law_take (spF_len fun xs s x s' h => by cases h; rfl) (fun cdv A outer s H vs Q E hr ⟨M, xs, st, x, st', h, So, rx, q⟩ => ?_)
  cases h with
  | @mk l b n c _ hl hn hn2 hc hc2 =>
  refine ⟨_, (pss_cons (ps_if (pt_cmpR op_gtA (pe_ix (ixk (K := K)) (pv 0) (pe_int) (fun _ _ => rfl)) (pe_int) (nomark _)) (pss_cons (ps_set (i := 2) sc__law_take.nd rfl (.inl rfl) (pe_op op_modA (pe_ix (ixk (K := K)) (pv 0) (pe_int) (fun _ _ => rfl)) (pv 1)))
      (pss_cons (ps_asg (pe_op op_fdivA (pe_ix (ixk (K := K)) (pv 0) (pe_int) (fun _ _ => rfl)) (pv 1)) (pg_sub (pv 0) (pe_int) set_list))
      (pss_one (ps_ret (pv 2))))) pss_nil)
      (pss_cons (ps_asg (pe_op (opk_plus (K := K)) (pe_ix (ixk (K := K)) (pv 0) (pe_int) (fun _ _ => rfl)) (pe_int)) (pg_sub (pv 0) (pe_int) set_list))
      (pss_cons (ps_set (i := 3) sc__law_take.nd rfl (.inl rfl) (pe_op op_modA (pe_op op_times (pe_op (opk_plus (K := K)) (pe_ix (ixk (K := K)) (pv 0) (pe_int) (fun _ _ => rfl)) (pe_op op_times (pe_int) (pe_ix (ixk (K := K)) (pv 0) (pe_int) (fun _ _ => rfl)))) (pe_op (opk_plus (K := K)) (pe_int) (pe_ix (ixk (K := K)) (pv 0) (pe_int) (fun _ _ => rfl)))) (pe_int)))
      (pss_cons (ps_set (i := 4) sc__law_take.nd rfl (.inl rfl) (pe_op op_modA (pe_op op_times (pe_op (opk_plus (K := K)) (pe_op (opk_plus (K := K)) (pv 3) (pe_ix (ixk (K := K)) (pv 0) (pe_int) (fun _ _ => rfl))) (pe_op op_fdivA (pe_ix (ixk (K := K)) (pv 0) (pe_int) (fun _ _ => rfl)) (pe_int))) (pe_op (opk_plus (K := K)) (pe_op op_modA (pv 3) (pe_int)) (pe_int))) (pe_int)))
      (pss_one (ps_ret (pe_op op_modA (pe_op op_fdivA (pe_op op_modA (pe_op (opk_plus (K := K)) (pe_op op_times (pv 4) (pe_int)) (pv 3)) (pe_int)) (pe_int)) (pv 1)))))))), ?_⟩
  refine w_run So rx ?_
  try simp only [nox_K, cx_K, List.map_cons, List.map_nil]
  have q' := okr_0 q (by rw [List.length_set]; exact So.len)
  obtain ⟨z0, z1⟩ := hc
  unfold tkR tkB at q'
  iterate 2 (walk_at "w")
  · intro c
    rw [if_pos (of_decide_eq_true c), if_pos (of_decide_eq_true c)] at q'
    iterate 5 (walk_at "w")
    exact q'
  · intro c
    rw [if_neg (of_decide_eq_false c), if_neg (of_decide_eq_false c)] at q'
    iterate 8 (walk_at "w")
    exact q'
inductive R_of : Gr
  | mk {l b ds c s d} (hl : s[l]? = some (bxl b)) (hz : 0 < ds.length) (hz2 : ds.length ≤ 1000000) (hc : Bk c b) (hc2 : c ≤ 2 ^ 40) (hd : ds[(tkR b (ds.length : Nat)).toNat]? = some d) : R_of [.loc l, .d (.list ds)] s (.d d) (s.set l (bxl (tkB b (ds.length : Nat))))
theorem ok_of (Z : Zx mg) (c__law_take : Cb P w K mg base "_law_take" 1 [] (spF K R_take)) (G : Fun K "_law_of" "_law_of" s__law_of f fd) : FnOk P w K mg base CX0 2 f fd ["_law_box_here", "_law_some"] (spF K R_of) := by
  refine G.ok sc__law_of (spF_len fun xs s x s' h => by cases h; rfl) (fun cdv A outer s H vs Q E hr ⟨M, xs, st, x, st', h, So, rx, q⟩ => ?_)
  cases h with
  | @mk l b ds c _ d hl hz hz2 hc hc2 hd =>
  refine ⟨_, (pss_one (ps_ret (pe_ix (ixk (K := K)) (pv 1) (pe_cb c__law_take (hr.mono (by decide)) (by rfl) (pa_cons (pv 0) (pa_cons (pe_callB (cbk_len (K := K)) (by rfl) Z.z_len bt_len (pa_cons (pv 1) pa_nil)) pa_nil))) (fun _ _ => rfl)))), ?_⟩
  refine w_run So rx ?_
  try simp only [nox_K, cx_K, List.map_cons, List.map_nil]
  have q' := okr_0 q (by rw [List.length_set]; exact So.len)
  have hr2 := tk_r (b := b) (n := (ds.length : Nat)) (by omega)
  have e : atI ds (tkR b (ds.length : Nat)) = some d := by
    have e := atI_nat hd
    rw [Int.toNat_of_nonneg hr2.1] at e
    exact e
  with_reducible apply w_ret
  · with_reducible apply ev_op
    · walk_at "ev"
    · with_reducible apply ev_call
      · walk_at "ea"
      · exact .mk hl (by omega) (by omega) hc hc2
    · walk_at "op"
  · exact q'
end
end K01
namespace K01
open PySem L2 Pw Km
section
local macro_rules | `(tactic| walk_at "sd") => `(tactic| first | rfl | assumption | exact Nat.le_of_ble_eq_true rfl | decide | omega | (walk_at "sd2"))
local macro_rules | `(tactic| walk_at "sd2") => `(tactic| first | exact cm_sm (by assumption) (by assumption) | exact cf_sm (by assumption) (by assumption) | ((with_reducible apply gs); (walk_at "sd")) | exact cm_fm7 | exact cm_if | exact cm_l (by omega) (by omega) | exact cm_r (by omega) (by omega) | exact cf_c (by omega) (by omega))
local macro_rules | `(tactic| walk_at "isi") => `(tactic| with_reducible first | exact kit_int | exact kit_bool | exact kit_tuple | exact kit_list | exact kit_str)
local macro_rules | `(tactic| walk_at "und") => `(tactic| with_reducible repeat (first | exact Und.nil | apply Und.cons))
local macro_rules | `(tactic| walk_at "op") => `(tactic| (first
  | with_reducible exact o_add | with_reducible exact o_minus | with_reducible exact o_lt | with_reducible exact o_gt | with_reducible exact o_le | with_reducible exact o_ge | with_reducible exact o_neg
  | with_reducible exact o_isN | with_reducible exact o_isntN | with_reducible exact o_isB | with_reducible exact o_isntB | with_reducible exact o_neS | with_reducible exact o_eqS
  | with_reducible exact o_abs | with_reducible exact o_intB | with_reducible exact o_min2 | with_reducible exact o_max2 | with_reducible exact o_lenL | with_reducible exact o_lenT | with_reducible exact o_lenC | with_reducible exact o_gcd
  | with_reducible apply o_ixT | with_reducible apply o_ixL | with_reducible apply o_ixM | with_reducible apply o_ixS | with_reducible apply o_lenM
  | with_reducible apply o_mul | with_reducible apply o_fdiv | with_reducible apply o_mod | with_reducible apply o_pow | with_reducible apply o_eq | with_reducible apply o_ne | with_reducible apply o_catT | with_reducible apply o_repr | with_reducible apply o_all) <;> walk_at "sd")
local macro_rules | `(tactic| walk_at "opn") => `(tactic| (first
  | with_reducible apply o_cat | with_reducible apply o_repI | with_reducible exact o_listT | with_reducible exact o_listL) <;> walk_at "sd")
local macro_rules | `(tactic| walk_at "ea") => `(tactic| first
  | with_reducible exact eva_nil
  | ((with_reducible apply eva_cons); (walk_at "ev"); (walk_at "ea")))
local macro_rules | `(tactic| walk_at "call") => `(tactic| fail)
local macro_rules | `(tactic| walk_at "evn") => `(tactic| first
  | ((with_reducible apply evn_lstU); (walk_at "ea"); (walk_at "und"); (walk_at "sd"))
  | ((with_reducible apply evn_op); (walk_at "ev"); (walk_at "ev"); (walk_at "opn"))
  | ((with_reducible apply evn_cb); (walk_at "ea"); (walk_at "opn"))
  | ((with_reducible apply evn_call); (walk_at "ea"); (walk_at "call")))
local macro_rules | `(tactic| walk_at "ev") => `(tactic| first
  | with_reducible exact ev_int | with_reducible exact ev_bl | with_reducible exact ev_non | with_reducible exact ev_str
  | ((with_reducible apply ev_var); rfl)
  | ((with_reducible apply ev_op); (walk_at "ev"); (walk_at "ev"); (walk_at "op"))
  | ((with_reducible apply ev_un); (walk_at "ev"); (walk_at "op"))
  | ((with_reducible apply ev_call); (walk_at "ea"); (walk_at "call"))
  | ((with_reducible apply ev_callD); (walk_at "ea"); (intro _ _; exact rxs_1); (walk_at "call"))
  | ((with_reducible apply ev_callK); (walk_at "ea"); rfl; (intro _ _ _ hh; first | exact rxs_swap2 hh | exact rxs_same1 hh); (walk_at "call"))
  | ((with_reducible apply ev_isi); (walk_at "ev"); (walk_at "isi"))
  | ((with_reducible apply ev_isi2); (walk_at "ev"); (walk_at "isi"); (walk_at "isi"))
  | ((with_reducible apply ev_cb); (walk_at "ea"); (walk_at "op"))
  | ((with_reducible apply ev_tupU); (walk_at "ea"); (walk_at "und"); (walk_at "sd"))
  | ((with_reducible apply ev_new); (walk_at "evn"))
  | ((with_reducible apply ev_slT); (walk_at "ev"); (walk_at "eo"); (walk_at "eo"))
  | ((with_reducible apply ev_andV); (walk_at "ev"); (intro _; walk_at "ev"); (intro _; rfl))
  | ((with_reducible apply ev_orV); (walk_at "ev"); (intro _; walk_at "ev"); (intro _; rfl))
  | ((with_reducible apply ev_notV); (walk_at "ev")))
local macro_rules | `(tactic| walk_at "eo") => `(tactic| first
  | with_reducible exact eo_none
  | ((with_reducible apply eo_some); (walk_at "ev")))
local macro_rules | `(tactic| walk_at "et") => `(tactic| first
  | ((with_reducible apply et_test); (walk_at "ev"))
  | ((with_reducible apply et_B); (walk_at "ev"))
  | ((with_reducible apply et_not); (walk_at "et"))
  | ((with_reducible apply et_and); (walk_at "et"); (intro _; walk_at "et"); (intro _; rfl))
  | ((with_reducible apply et_or); (walk_at "et"); (intro _; walk_at "et"); (intro _; rfl)))
local macro_rules | `(tactic| walk_at "w") => `(tactic| first
  | (with_reducible apply w_seq)
  | (with_reducible apply w_next)
  | ((with_reducible apply w_asg); (walk_at "ev"))
  | ((with_reducible apply w_ret); (walk_at "ev"))
  | ((with_reducible apply w_drop); (walk_at "ev"))
  | ((with_reducible apply w_par); (walk_at "ea"))
  | ((with_reducible apply w_tup2); (walk_at "ev"))
  | ((with_reducible apply w_tup3); (walk_at "ev"))
  | ((with_reducible apply w_setI); (walk_at "ev"); (walk_at "ev"); (walk_at "ev"); (walk_at "sd"); (walk_at "sd"))
  | ((with_reducible apply w_if); (walk_at "et")))

variable {P : Program} {w : World} {K : Pw.Fg} {mg : Str → Option Value} {base : Heap} {f : Addr} {fd : FuncData}
/-! ### the law's own fraction -/
theorem ok_lfrac (Z : Zx mg) (G : Fun K "_law_frac" "_law_frac" s__law_frac f fd) : FnOk P w K mg base CX0 1 f fd ["_law_upper", "_law_under"] (spF K R_frac) := by
  refine G.ok sc__law_frac (spF_len fun xs s x s' h => by cases h; rfl) (fun cdv A outer s H vs Q E hr ⟨M, xs, st, x, st', h, So, rx, q⟩ => ?_)
  cases h with
  | @mk u v _ h hu hv =>
  refine ⟨_, (pss_cons (ps_par (i := 2) (j := 3) (by rfl) sc__law_frac.nd rfl rfl (by decide) rfl rfl (pa_cons (pe_callB cb_abs (by rfl) Z.z_abs bt_abs (pa_cons (pv 0) pa_nil)) (pa_cons (pe_callB cb_abs (by rfl) Z.z_abs bt_abs (pa_cons (pv 1) pa_nil)) pa_nil)) (by rfl))
      (pss_cons (ps_while PassesOwn.never (pt_cmpR op_gtA (pv 3) (pe_int) (nomark _)) (pss_one (ps_par (i := 2) (j := 3) (by rfl) sc__law_frac.nd rfl rfl (by decide) rfl rfl (pa_cons (pv 3) (pa_cons (pe_op op_modA (pv 2) (pv 3)) pa_nil)) (by rfl))))
      (pss_cons (ps_set (i := 4) sc__law_frac.nd rfl (.inl rfl) (pe_ifExp (pt_cmpR op_gtA (pv 1) (pe_int) (nomark _)) (pe_int) (pe_un un_negA (pe_int))))
      (pss_one (ps_ret (pe_tup (pa_cons (pe_op op_fdivA (pe_op op_times (pv 4) (pv 0)) (pv 2)) (pa_cons (pe_op op_fdivA (pe_callB cb_abs (by rfl) Z.z_abs bt_abs (pa_cons (pv 1) pa_nil)) (pv 2)) pa_nil)))))))), ?_⟩
  refine w_run So rx ?_
  try simp only [nox_K, cx_K, List.map_cons, List.map_nil]
  have q' := okr_0 q So.len
  have g0 := gcd_pos (u := u) h
  iterate 3 (walk_at "w")
  refine w_while (fun m ρ s => s = st ∧ ∃ p : Nat, ρ = [some (.d (.int u)), some (.d (.int v)), some (.d (.int (p : Int))), some (.d (.int (m : Int))), none] ∧ Nat.gcd p m = Nat.gcd u.natAbs v.natAbs) ⟨v.natAbs, rfl, u.natAbs, ?_, rfl⟩ ?_
  · rw [abs_if, abs_if]
    rfl
  · rintro m ρ s2 ⟨rfl, p, rfl, hg⟩
    refine ⟨decide (0 < (m : Int)), s2, ?_, ?_, ?_⟩
    · walk_at "et"
    · intro c N hN
      have hm : 0 < m := by
        have := of_decide_eq_true c
        omega
      walk_at "w"
      refine hN (p % m) _ _ (Nat.mod_lt _ hm) ⟨rfl, m, ?_, ?_⟩
      · rw [cast_fmod hm]
        rfl
      · rw [Nat.gcd_comm, ← Nat.gcd_rec, Nat.gcd_comm]
        exact hg
    · intro c
      have hm : m = 0 := by
        have := of_decide_eq_false c
        omega
      subst hm
      rw [Nat.gcd_zero_right] at hg
      subst hg
      have hs : Sm 4000 (((Nat.gcd u.natAbs v.natAbs : Nat)) : Int) := hv.le (by
        rw [Int.natAbs_natCast]
        exact Nat.le_of_dvd (by omega) (Nat.gcd_dvd_right _ _))
      have c1 : ∀ i, CF i (((Nat.gcd u.natAbs v.natAbs : Nat)) : Int) := fun i => cf_sm (by omega) hs
      have c2 := c1 (sg v * u)
      have c3 := c1 (if v < 0 then -v else v)
      have c4 : CM (sg v) u := by
        have := sg_abs v
        exact cm_l (by omega) (by omega)
      walk_at "w"
      with_reducible apply w_asg (x := .d (.int (sg v)))
      · with_reducible apply ev_if
        · walk_at "et"
        · intro cc
          exact ev_int.is (by unfold sg; rw [if_pos (of_decide_eq_true cc)])
        · intro cc
          have e : sg v = -1 := by unfold sg; rw [if_neg (of_decide_eq_false cc)]
          rw [e]
          walk_at "ev"
      · walk_at "w"
        refine q'.is ?_
        rw [abs_if]
        rfl
section
local macro_rules | `(tactic| walk_at "call") => `(tactic| exact fr_mk (by assumption) (by assumption) (by assumption))
theorem ok_lplus (c__law_frac : Cb P w K mg base "_law_frac" 1 [] (spF K R_frac)) (G : Fun K "_law_plus" "_law_plus" s__law_plus f fd) : FnOk P w K mg base CX0 2 f fd ["_law_first", "_law_second"] (spF K R_plus) := by
  refine G.ok sc__law_plus (spF_len fun xs s x s' h => by cases h; rfl) (fun cdv A outer s H vs Q E hr ⟨M, xs, st, x, st', h, So, rx, q⟩ => ?_)
  cases h with
  | @mk a b c d _ hb hd ha' hb' hc' hd' =>
  refine ⟨_, (pss_one (ps_ret (pe_cb c__law_frac (hr.mono (by decide)) (by rfl) (pa_cons (pe_op (opk_plus (K := K)) (pe_op op_times (pe_ix (ixk (K := K)) (pv 0) (pe_int) (fun _ _ => rfl)) (pe_ix (ixk (K := K)) (pv 1) (pe_int) (fun _ _ => rfl))) (pe_op op_times (pe_ix (ixk (K := K)) (pv 1) (pe_int) (fun _ _ => rfl)) (pe_ix (ixk (K := K)) (pv 0) (pe_int) (fun _ _ => rfl)))) (pa_cons (pe_op op_times (pe_ix (ixk (K := K)) (pv 0) (pe_int) (fun _ _ => rfl)) (pe_ix (ixk (K := K)) (pv 1) (pe_int) (fun _ _ => rfl))) pa_nil))))), ?_⟩
  refine w_run So rx ?_
  try simp only [nox_K, cx_K, List.map_cons, List.map_nil]
  have q' := okr_0 q So.len
  have z1 := (ha'.mul hd').add (hc'.mul hb')
  have z2 := hb'.mul hd'
  have z3 : b * d ≠ 0 := Int.mul_ne_zero hb hd
  walk_at "w"
  exact q'
theorem ok_lless (c__law_frac : Cb P w K mg base "_law_frac" 1 [] (spF K R_frac)) (G : Fun K "_law_less" "_law_less" s__law_less f fd) : FnOk P w K mg base CX0 2 f fd ["_law_first", "_law_second"] (spF K R_minus) := by
  refine G.ok sc__law_less (spF_len fun xs s x s' h => by cases h; rfl) (fun cdv A outer s H vs Q E hr ⟨M, xs, st, x, st', h, So, rx, q⟩ => ?_)
  cases h with
  | @mk a b c d _ hb hd ha' hb' hc' hd' =>
  refine ⟨_, (pss_one (ps_ret (pe_cb c__law_frac (hr.mono (by decide)) (by rfl) (pa_cons (pe_op op_minus (pe_op op_times (pe_ix (ixk (K := K)) (pv 0) (pe_int) (fun _ _ => rfl)) (pe_ix (ixk (K := K)) (pv 1) (pe_int) (fun _ _ => rfl))) (pe_op op_times (pe_ix (ixk (K := K)) (pv 1) (pe_int) (fun _ _ => rfl)) (pe_ix (ixk (K := K)) (pv 0) (pe_int) (fun _ _ => rfl)))) (pa_cons (pe_op op_times (pe_ix (ixk (K := K)) (pv 0) (pe_int) (fun _ _ => rfl)) (pe_ix (ixk (K := K)) (pv 1) (pe_int) (fun _ _ => rfl))) pa_nil))))), ?_⟩
  refine w_run So rx ?_
  try simp only [nox_K, cx_K, List.map_cons, List.map_nil]
  have q' := okr_0 q So.len
  have z1 := (ha'.mul hd').sub (hc'.mul hb')
  have z2 := hb'.mul hd'
  have z3 : b * d ≠ 0 := Int.mul_ne_zero hb hd
  walk_at "w"
  exact q'
theorem ok_ltimes (c__law_frac : Cb P w K mg base "_law_frac" 1 [] (spF K R_frac)) (G : Fun K "_law_times" "_law_times" s__law_times f fd) : FnOk P w K mg base CX0 2 f fd ["_law_first", "_law_second"] (spF K R_times) := by
  refine G.ok sc__law_times (spF_len fun xs s x s' h => by cases h; rfl) (fun cdv A outer s H vs Q E hr ⟨M, xs, st, x, st', h, So, rx, q⟩ => ?_)
  cases h with
  | @mk a b c d _ hb hd ha' hb' hc' hd' =>
  refine ⟨_, (pss_one (ps_ret (pe_cb c__law_frac (hr.mono (by decide)) (by rfl) (pa_cons (pe_op op_times (pe_ix (ixk (K := K)) (pv 0) (pe_int) (fun _ _ => rfl)) (pe_ix (ixk (K := K)) (pv 1) (pe_int) (fun _ _ => rfl))) (pa_cons (pe_op op_times (pe_ix (ixk (K := K)) (pv 0) (pe_int) (fun _ _ => rfl)) (pe_ix (ixk (K := K)) (pv 1) (pe_int) (fun _ _ => rfl))) pa_nil))))), ?_⟩
  refine w_run So rx ?_
  try simp only [nox_K, cx_K, List.map_cons, List.map_nil]
  have q' := okr_0 q So.len
  have z1 := ha'.mul hc'
  have z2 := hb'.mul hd'
  have z3 : b * d ≠ 0 := Int.mul_ne_zero hb hd
  walk_at "w"
  exact q'
theorem ok_lover (c__law_frac : Cb P w K mg base "_law_frac" 1 [] (spF K R_frac)) (G : Fun K "_law_over" "_law_over" s__law_over f fd) : FnOk P w K mg base CX0 2 f fd ["_law_first", "_law_second"] (spF K R_over) := by
  refine G.ok sc__law_over (spF_len fun xs s x s' h => by cases h; rfl) (fun cdv A outer s H vs Q E hr ⟨M, xs, st, x, st', h, So, rx, q⟩ => ?_)
  cases h with
  | @mk a b c d _ hb hc ha' hb' hc' hd' =>
  refine ⟨_, (pss_one (ps_ret (pe_cb c__law_frac (hr.mono (by decide)) (by rfl) (pa_cons (pe_op op_times (pe_ix (ixk (K := K)) (pv 0) (pe_int) (fun _ _ => rfl)) (pe_ix (ixk (K := K)) (pv 1) (pe_int) (fun _ _ => rfl))) (pa_cons (pe_op op_times (pe_ix (ixk (K := K)) (pv 0) (pe_int) (fun _ _ => rfl)) (pe_ix (ixk (K := K)) (pv 1) (pe_int) (fun _ _ => rfl))) pa_nil))))), ?_⟩
  refine w_run So rx ?_
  try simp only [nox_K, cx_K, List.map_cons, List.map_nil]
  have q' := okr_0 q So.len
  have z1 := ha'.mul hd'
  have z2 := hb'.mul hc'
  have z3 : b * c ≠ 0 := Int.mul_ne_zero hb hc
  walk_at "w"
  exact q'
end
/-! ### a drawn fraction -/
inductive R_draw : Gr
  | mk {l b n c s} (hl : s[l]? = some (bxl b)) (hn : 0 ≤ n) (hn2 : n ≤ 100000) (hc : Bk c b) (hc2 : c + 2 ≤ 2 ^ 40) : R_draw [.loc l, .d (.int n)] s (.d (lw (drN b n) (drD b n))) ((s.set l (bxl (tkB b (2 * n + 1)))).set l (bxl (drB b n)))
theorem ok_draw (c__law_take : Cb P w K mg base "_law_take" 1 [] (spF K R_take)) (c__law_of : Cb P w K mg base "_law_of" 2 [] (spF K R_of)) (c__law_frac : Cb P w K mg base "_law_frac" 1 [] (spF K R_frac)) (G : Fun K "_law_draw" "_law_draw" s__law_draw f fd) : FnOk P w K mg base CX0 3 f fd ["_law_box_here", "_law_upper"] (spF K R_draw) := by
  refine G.ok sc__law_draw (spF_len fun xs s x s' h => by cases h; rfl) (fun cdv A outer s H vs Q E hr ⟨M, xs, st, x, st', h, So, rx, q⟩ => ?_)
  cases h with
  | @mk l b n c _ hl hn hn2 hc hc2 =>
  refine ⟨_, (pss_one (ps_ret (pe_cb c__law_frac (hr.mono (by decide)) (by rfl) (pa_cons (pe_op op_minus (pe_cb c__law_take (hr.mono (by decide)) (by rfl) (pa_cons (pv 0) (pa_cons (pe_op (opk_plus (K := K)) (pe_op op_times (pe_int) (pv 1)) (pe_int)) pa_nil))) (pv 1)) (pa_cons (pe_cb c__law_of (hr.mono (by decide)) (by rfl) (pa_cons (pv 0) (pa_cons (pe_lst (pa_cons (pe_int) (pa_cons (pe_int) (pa_cons (pe_int) (pa_cons (pe_int) (pa_cons (pe_int) (pa_cons (pe_int) pa_nil))))))) pa_nil))) pa_nil))))), ?_⟩
  refine w_run So rx ?_
  try simp only [nox_K, cx_K, List.map_cons, List.map_nil]
  have q' := okr_0 q (by rw [List.length_set, List.length_set]; exact So.len)
  have h1 := drN_le (b := b) hn
  have h2 := drD_le (b := b) (n := n)
  have s1 : Sm 20 (drN b n) := .of 100000 (by omega)
  have s2 : Sm 20 (drD b n) := .of 4 (by omega)
  with_reducible apply w_ret
  · with_reducible apply ev_call
    · with_reducible apply eva_cons
      · with_reducible apply ev_op
        · with_reducible apply ev_call
          · walk_at "ea"
          · exact .mk hl (by omega) (by omega) hc (by omega)
        · walk_at "ev"
        · walk_at "op"
      · with_reducible apply eva_cons
        · with_reducible apply ev_call
          · walk_at "ea"
          · exact R_of.mk (ds := [.int 1, .int 1, .int 1, .int 2, .int 3, .int 4]) (b := tkB b (2 * n + 1)) (c := c + 1) (gs hl) (by decide) (by decide) hc.next (by omega) (drD_at (b := b) (n := n))
        · exact eva_nil
    · exact fr_mk (n := 20) (m := 20) s1 s2 (by omega)
  · exact q'
end
end K01
namespace K01
open PySem L2 Pw Km
/-! ### what is a fraction -/
def isF : PyData → Bool
  | .tuple [.int a, .int b] => decide (0 < b) && PyData.eqv (.int ((Nat.gcd a.natAbs b.natAbs : Nat) : Int)) (.int 1)
  | _ => false
theorem num_int {p : PyData} (h : isNum p = true) : ∃ a, p = .int a := by
  cases p <;> first | exact ⟨_, rfl⟩ | (simp [isNum, isI, isB] at h)
theorem isF_no {p q : PyData} (h : (!isNum p || !isNum q) = true) : isF (.tuple [p, q]) = false := by
  cases p <;> first | rfl | (cases q <;> first | rfl | (simp [isNum, isI, isB] at h))
theorem isF_eq {a b : Int} : (decide (0 < b) && PyData.eqv (lw a b) (q2 a b)) = isF (.tuple [.int a, .int b]) := by
  by_cases h : 0 < b
  · have e := lw_self (u := a) h
    show (decide (0 < b) && ((lwN a b == a) && ((lwD a b == b) && true))) = (decide (0 < b) && (((Nat.gcd a.natAbs b.natAbs : Nat) : Int) == 1))
    rw [decide_eq_true h, Bool.true_and, Bool.true_and, Bool.and_true, Bool.eq_iff_iff, Bool.and_eq_true, beq_iff_eq, beq_iff_eq, beq_iff_eq, e]
    omega
  · show (decide (0 < b) && _) = (decide (0 < b) && _)
    rw [decide_eq_false h]
    rfl
theorem isF_lw {u v : Int} (h : v ≠ 0) : isF (lw u v) = true := by
  have hp := lwD_pos (u := u) h
  have g := gcd_pos (u := u) h
  have e : Nat.gcd (lwN u v).natAbs (lwD u v).natAbs = 1 := by
    have hn : (lwN u v).natAbs = u.natAbs / Nat.gcd u.natAbs v.natAbs := by
      unfold lwN
      rw [Int.fdiv_eq_ediv_of_nonneg _ (by omega)]
      have d : Nat.gcd u.natAbs v.natAbs ∣ (sg v * u).natAbs := by
        rw [Int.natAbs_mul, sg_abs, Nat.one_mul]
        exact Nat.gcd_dvd_left _ _
      rw [Int.natAbs_ediv_of_dvd (Int.ofNat_dvd_left.mpr d), Int.natAbs_mul, sg_abs, Nat.one_mul, Int.natAbs_natCast]
    have hd : (lwD u v).natAbs = v.natAbs / Nat.gcd u.natAbs v.natAbs := by
      unfold lwD
      rw [Int.fdiv_eq_ediv_of_nonneg _ (by omega), ← Int.natCast_ediv, Int.natAbs_natCast]
    rw [hn, hd]
    exact Nat.gcd_div_gcd_div_gcd_of_pos_right (by omega)
  show (decide (0 < lwD u v) && (((Nat.gcd (lwN u v).natAbs (lwD u v).natAbs : Nat) : Int) == 1)) = true
  rw [e, decide_eq_true hp]
  rfl
section
local macro_rules | `(tactic| walk_at "sd") => `(tactic| first | rfl | assumption | exact Nat.le_of_ble_eq_true rfl | decide | omega | (walk_at "sd2"))
local macro_rules | `(tactic| walk_at "sd2") => `(tactic| first | exact cm_sm (by assumption) (by assumption) | exact cf_sm (by assumption) (by assumption) | ((with_reducible apply gs); (walk_at "sd")) | exact cm_fm7 | exact cm_if | exact cm_l (by omega) (by omega) | exact cm_r (by omega) (by omega) | exact cf_c (by omega) (by omega))
local macro_rules | `(tactic| walk_at "isi") => `(tactic| with_reducible first | exact kit_int | exact kit_bool | exact kit_tuple | exact kit_list | exact kit_str)
local macro_rules | `(tactic| walk_at "und") => `(tactic| with_reducible repeat (first | exact Und.nil | apply Und.cons))
local macro_rules | `(tactic| walk_at "op") => `(tactic| (first
  | with_reducible exact o_add | with_reducible exact o_minus | with_reducible exact o_lt | with_reducible exact o_gt | with_reducible exact o_le | with_reducible exact o_ge | with_reducible exact o_neg
  | with_reducible exact o_isN | with_reducible exact o_isntN | with_reducible exact o_isB | with_reducible exact o_isntB | with_reducible exact o_neS | with_reducible exact o_eqS
  | with_reducible exact o_abs | with_reducible exact o_intB | with_reducible exact o_min2 | with_reducible exact o_max2 | with_reducible exact o_lenL | with_reducible exact o_lenT | with_reducible exact o_lenC | with_reducible exact o_gcd
  | with_reducible apply o_ixT | with_reducible apply o_ixL | with_reducible apply o_ixM | with_reducible apply o_ixS | with_reducible apply o_lenM
  | with_reducible apply o_mul | with_reducible apply o_fdiv | with_reducible apply o_mod | with_reducible apply o_pow | with_reducible apply o_eq | with_reducible apply o_ne | with_reducible apply o_catT | with_reducible apply o_repr | with_reducible apply o_all) <;> walk_at "sd")
local macro_rules | `(tactic| walk_at "opn") => `(tactic| (first
  | with_reducible apply o_cat | with_reducible apply o_repI | with_reducible exact o_listT | with_reducible exact o_listL) <;> walk_at "sd")
local macro_rules | `(tactic| walk_at "ea") => `(tactic| first
  | with_reducible exact eva_nil
  | ((with_reducible apply eva_cons); (walk_at "ev"); (walk_at "ea")))
local macro_rules | `(tactic| walk_at "call") => `(tactic| fail)
local macro_rules | `(tactic| walk_at "evn") => `(tactic| first
  | ((with_reducible apply evn_lstU); (walk_at "ea"); (walk_at "und"); (walk_at "sd"))
  | ((with_reducible apply evn_op); (walk_at "ev"); (walk_at "ev"); (walk_at "opn"))
  | ((with_reducible apply evn_cb); (walk_at "ea"); (walk_at "opn"))
  | ((with_reducible apply evn_call); (walk_at "ea"); (walk_at "call")))
local macro_rules | `(tactic| walk_at "ev") => `(tactic| first
  | with_reducible exact ev_int | with_reducible exact ev_bl | with_reducible exact ev_non | with_reducible exact ev_str
  | ((with_reducible apply ev_var); rfl)
  | ((with_reducible apply ev_op); (walk_at "ev"); (walk_at "ev"); (walk_at "op"))
  | ((with_reducible apply ev_un); (walk_at "ev"); (walk_at "op"))
  | ((with_reducible apply ev_call); (walk_at "ea"); (walk_at "call"))
  | ((with_reducible apply ev_callD); (walk_at "ea"); (intro _ _; exact rxs_1); (walk_at "call"))
  | ((with_reducible apply ev_callK); (walk_at "ea"); rfl; (intro _ _ _ hh; first | exact rxs_swap2 hh | exact rxs_same1 hh); (walk_at "call"))
  | ((with_reducible apply ev_isi); (walk_at "ev"); (walk_at "isi"))
  | ((with_reducible apply ev_isi2); (walk_at "ev"); (walk_at "isi"); (walk_at "isi"))
  | ((with_reducible apply ev_cb); (walk_at "ea"); (walk_at "op"))
  | ((with_reducible apply ev_tupU); (walk_at "ea"); (walk_at "und"); (walk_at "sd"))
  | ((with_reducible apply ev_new); (walk_at "evn"))
  | ((with_reducible apply ev_slT); (walk_at "ev"); (walk_at "eo"); (walk_at "eo"))
  | ((with_reducible apply ev_andV); (walk_at "ev"); (intro _; walk_at "ev"); (intro _; rfl))
  | ((with_reducible apply ev_orV); (walk_at "ev"); (intro _; walk_at "ev"); (intro _; rfl))
  | ((with_reducible apply ev_notV); (walk_at "ev")))
local macro_rules | `(tactic| walk_at "eo") => `(tactic| first
  | with_reducible exact eo_none
  | ((with_reducible apply eo_some); (walk_at "ev")))
local macro_rules | `(tactic| walk_at "et") => `(tactic| first
  | ((with_reducible apply et_test); (walk_at "ev"))
  | ((with_reducible apply et_B); (walk_at "ev"))
  | ((with_reducible apply et_not); (walk_at "et"))
  | ((with_reducible apply et_and); (walk_at "et"); (intro _; walk_at "et"); (intro _; rfl))
  | ((with_reducible apply et_or); (walk_at "et"); (intro _; walk_at "et"); (intro _; rfl)))
local macro_rules | `(tactic| walk_at "w") => `(tactic| first
  | (with_reducible apply w_seq)
  | (with_reducible apply w_next)
  | ((with_reducible apply w_asg); (walk_at "ev"))
  | ((with_reducible apply w_ret); (walk_at "ev"))
  | ((with_reducible apply w_drop); (walk_at "ev"))
  | ((with_reducible apply w_par); (walk_at "ea"))
  | ((with_reducible apply w_tup2); (walk_at "ev"))
  | ((with_reducible apply w_tup3); (walk_at "ev"))
  | ((with_reducible apply w_setI); (walk_at "ev"); (walk_at "ev"); (walk_at "ev"); (walk_at "sd"); (walk_at "sd"))
  | ((with_reducible apply w_if); (walk_at "et")))

variable {P : Program} {w : World} {K : Pw.Fg} {mg : Str → Option Value} {base : Heap} {f : Addr} {fd : FuncData}
inductive R_isF : Gr
  | mk {d s} : R_isF [.d d] s (.d (.bool (isF d))) s
section
local macro_rules | `(tactic| walk_at "call") => `(tactic| exact R_num.mk)
theorem ok_isF (Z : Zx mg) (c_is_number : Cb P w K mg base "is_number" 1 [] (spF K R_num)) (G : Fun K "is_frac" "is_frac" s_is_frac f fd) : FnOk P w K mg base CX0 2 f fd ["thing"] (spF K R_isF) := by
  refine G.ok sc_is_frac (spF_len fun xs s x s' h => by cases h; rfl) (fun cdv A outer s H vs Q E hr ⟨M, xs, st, x, st', h, So, rx, q⟩ => ?_)
  cases h with
  | @mk d =>
  refine ⟨_, (pss_cons (ps_if (PW.pt (pw_or (pt_not (pt_val (pe_callB (cbk_isi (K := K)) (by rfl) Z.z_isinstance bt_isinstance (pa_cons (pv 0) (pa_cons (pe_bltn (v := .ty "tuple") (by rfl) Z.z_tuple bt_tuple rfl) pa_nil))))) (pw_or1 (pt_cmpR (opk_ne (K := K) hr.units) (pe_callB (cbk_len (K := K)) (by rfl) Z.z_len bt_len (pa_cons (pv 0) pa_nil)) (pe_int) (nomark _))))) (pss_one (ps_ret (pe_bl))) pss_nil)
      (pss_cons (ps_asg (pv 0) (pgk_tup (K := K) 2 (by rfl) (pgs_cons (pg_name (i := 1) sc_is_frac.nd rfl (Or.inl rfl)) (pgs_cons (pg_name (i := 2) sc_is_frac.nd rfl (Or.inl rfl)) pgs_nil))))
      (pss_cons (ps_if (PW.pt (pw_or (pt_not (pt_val (pe_cb c_is_number (hr.mono (by decide)) (by rfl) (pa_cons (pv 1) pa_nil)))) (pw_or1 (pt_not (pt_val (pe_cb c_is_number (hr.mono (by decide)) (by rfl) (pa_cons (pv 2) pa_nil))))))) (pss_one (ps_ret (pe_bl))) pss_nil)
      (pss_one (ps_ret (pe_and (pe_cmpR op_gtA (pv 2) (pe_int) (nomark _)) (pe_one (pe_cmpR (opk_eq (K := K) hr.units) (pe_callBfun cr_gcd (by rfl) Z.z_gcd (pa_cons (pv 1) (pa_cons (pv 2) pa_nil))) (pe_int) (nomark _))))))))), ?_⟩
  refine w_run So rx ?_
  try simp only [nox_K, cx_K, List.map_cons, List.map_nil]
  have q' := okr_0 q So.len
  walk_at "w"
  by_cases ht : ∃ ds, d = .tuple ds
  · obtain ⟨ds, rfl⟩ := ht
    walk_at "w"
    · intro c
      have e : isF (.tuple ds) = false := by
        match ds, c with
        | [], _ => rfl
        | [p], _ => cases p <;> rfl
        | [p, q], c => simp [isT, PyData.eqv] at c
        | p :: q :: r :: t, _ => cases p <;> first | rfl | (cases q <;> rfl)
      rw [e] at q'
      walk_at "w"
      exact q'
    · intro c
      obtain ⟨p, r, rfl⟩ : ∃ p r, ds = [p, r] := by
        match ds, c with
        | [], c => simp [isT, PyData.eqv] at c
        | [p], c => simp [isT, PyData.eqv] at c
        | [p, r], _ => exact ⟨p, r, rfl⟩
        | p :: q :: r :: t, c =>
          simp [isT, PyData.eqv] at c
          omega
      iterate 5 (walk_at "w")
      · intro c2
        rw [isF_no c2] at q'
        walk_at "w"
        exact q'
      · intro c2
        rw [Bool.or_eq_false_iff, Bool.not_eq_false', Bool.not_eq_false'] at c2
        obtain ⟨a, rfl⟩ := num_int c2.1
        obtain ⟨b, rfl⟩ := num_int c2.2
        iterate 2 (walk_at "w")
        exact q'
  · have e1 : isT d = false := by
      cases d <;> first | rfl | exact absurd ⟨_, rfl⟩ ht
    have e : isF d = false := by
      cases d <;> first | rfl | exact absurd ⟨_, rfl⟩ ht
    rw [e] at q'
    with_reducible apply w_if (b := true)
    · with_reducible apply et_or1
      refine EvT.is (by walk_at "et") ?_
      rw [e1]
      rfl
    · intro _
      walk_at "w"
      exact q'
    · intro c
      cases c
end
end
end K01
namespace K01
open PySem L2 Pw Km
section
local macro_rules | `(tactic| walk_at "sd") => `(tactic| first | rfl | assumption | exact Nat.le_of_ble_eq_true rfl | decide | omega | (walk_at "sd2"))
local macro_rules | `(tactic| walk_at "sd2") => `(tactic| first | exact cm_sm (by assumption) (by assumption) | exact cf_sm (by assumption) (by assumption) | ((with_reducible apply gs); (walk_at "sd")) | exact cm_fm7 | exact cm_if | exact cm_l (by omega) (by omega) | exact cm_r (by omega) (by omega) | exact cf_c (by omega) (by omega))
local macro_rules | `(tactic| walk_at "isi") => `(tactic| with_reducible first | exact kit_int | exact kit_bool | exact kit_tuple | exact kit_list | exact kit_str)
local macro_rules | `(tactic| walk_at "und") => `(tactic| with_reducible repeat (first | exact Und.nil | apply Und.cons))
local macro_rules | `(tactic| walk_at "op") => `(tactic| (first
  | with_reducible exact o_add | with_reducible exact o_minus | with_reducible exact o_lt | with_reducible exact o_gt | with_reducible exact o_le | with_reducible exact o_ge | with_reducible exact o_neg
  | with_reducible exact o_isN | with_reducible exact o_isntN | with_reducible exact o_isB | with_reducible exact o_isntB | with_reducible exact o_neS | with_reducible exact o_eqS
  | with_reducible exact o_abs | with_reducible exact o_intB | with_reducible exact o_min2 | with_reducible exact o_max2 | with_reducible exact o_lenL | with_reducible exact o_lenT | with_reducible exact o_lenC | with_reducible exact o_gcd
  | with_reducible apply o_ixT | with_reducible apply o_ixL | with_reducible apply o_ixM | with_reducible apply o_ixS | with_reducible apply o_lenM
  | with_reducible apply o_mul | with_reducible apply o_fdiv | with_reducible apply o_mod | with_reducible apply o_pow | with_reducible apply o_eq | with_reducible apply o_ne | with_reducible apply o_catT | with_reducible apply o_repr | with_reducible apply o_all) <;> walk_at "sd")
local macro_rules | `(tactic| walk_at "opn") => `(tactic| (first
  | with_reducible apply o_cat | with_reducible apply o_repI | with_reducible exact o_listT | with_reducible exact o_listL) <;> walk_at "sd")
local macro_rules | `(tactic| walk_at "ea") => `(tactic| first
  | with_reducible exact eva_nil
  | ((with_reducible apply eva_cons); (walk_at "ev"); (walk_at "ea")))
local macro_rules | `(tactic| walk_at "call") => `(tactic| fail)
local macro_rules | `(tactic| walk_at "evn") => `(tactic| first
  | ((with_reducible apply evn_lstU); (walk_at "ea"); (walk_at "und"); (walk_at "sd"))
  | ((with_reducible apply evn_op); (walk_at "ev"); (walk_at "ev"); (walk_at "opn"))
  | ((with_reducible apply evn_cb); (walk_at "ea"); (walk_at "opn"))
  | ((with_reducible apply evn_call); (walk_at "ea"); (walk_at "call")))
local macro_rules | `(tactic| walk_at "ev") => `(tactic| first
  | with_reducible exact ev_int | with_reducible exact ev_bl | with_reducible exact ev_non | with_reducible exact ev_str
  | ((with_reducible apply ev_var); rfl)
  | ((with_reducible apply ev_op); (walk_at "ev"); (walk_at "ev"); (walk_at "op"))
  | ((with_reducible apply ev_un); (walk_at "ev"); (walk_at "op"))
  | ((with_reducible apply ev_call); (walk_at "ea"); (walk_at "call"))
  | ((with_reducible apply ev_callD); (walk_at "ea"); (intro _ _; exact rxs_1); (walk_at "call"))
  | ((with_reducible apply ev_callK); (walk_at "ea"); rfl; (intro _ _ _ hh; first | exact rxs_swap2 hh | exact rxs_same1 hh); (walk_at "call"))
  | ((with_reducible apply ev_isi); (walk_at "ev"); (walk_at "isi"))
  | ((with_reducible apply ev_isi2); (walk_at "ev"); (walk_at "isi"); (walk_at "isi"))
  | ((with_reducible apply ev_cb); (walk_at "ea"); (walk_at "op"))
  | ((with_reducible apply ev_tupU); (walk_at "ea"); (walk_at "und"); (walk_at "sd"))
  | ((with_reducible apply ev_new); (walk_at "evn"))
  | ((with_reducible apply ev_slT); (walk_at "ev"); (walk_at "eo"); (walk_at "eo"))
  | ((with_reducible apply ev_andV); (walk_at "ev"); (intro _; walk_at "ev"); (intro _; rfl))
  | ((with_reducible apply ev_orV); (walk_at "ev"); (intro _; walk_at "ev"); (intro _; rfl))
  | ((with_reducible apply ev_notV); (walk_at "ev")))
local macro_rules | `(tactic| walk_at "eo") => `(tactic| first
  | with_reducible exact eo_none
  | ((with_reducible apply eo_some); (walk_at "ev")))
local macro_rules | `(tactic| walk_at "et") => `(tactic| first
  | ((with_reducible apply et_test); (walk_at "ev"))
  | ((with_reducible apply et_B); (walk_at "ev"))
  | ((with_reducible apply et_not); (walk_at "et"))
  | ((with_reducible apply et_and); (walk_at "et"); (intro _; walk_at "et"); (intro _; rfl))
  | ((with_reducible apply et_or); (walk_at "et"); (intro _; walk_at "et"); (intro _; rfl)))
local macro_rules | `(tactic| walk_at "w") => `(tactic| first
  | (with_reducible apply w_seq)
  | (with_reducible apply w_next)
  | ((with_reducible apply w_asg); (walk_at "ev"))
  | ((with_reducible apply w_ret); (walk_at "ev"))
  | ((with_reducible apply w_drop); (walk_at "ev"))
  | ((with_reducible apply w_par); (walk_at "ea"))
  | ((with_reducible apply w_tup2); (walk_at "ev"))
  | ((with_reducible apply w_tup3); (walk_at "ev"))
  | ((with_reducible apply w_setI); (walk_at "ev"); (walk_at "ev"); (walk_at "ev"); (walk_at "sd"); (walk_at "sd"))
  | ((with_reducible apply w_if); (walk_at "et")))

variable {P : Program} {w : World} {K : Pw.Fg} {mg : Str → Option Value} {base : Heap} {f : Addr} {fd : FuncData}
inductive R_low : Gr
  | mk {d s} (hb : ∀ a b, d = .tuple [.int a, .int b] → Sm 4000 a ∧ Sm 4000 b) : R_low [.d d] s (.d (.bool (isF d))) s
theorem isF_all {ds : List PyData} (h : (ds.map isNum).all id = true) {p : PyData} (hp : p ∈ ds) : ∃ a, p = .int a := by
  rw [List.all_map, List.all_eq_true] at h
  exact num_int (h p hp)
theorem ok_low (Z : Zx mg) (c__law_frac : Cb P w K mg base "_law_frac" 1 [] (spF K R_frac)) (G : Fun K "_law_is_lowered" "_law_is_lowered" s__law_is_lowered f fd) : FnOk P w K mg base CX0 2 f fd ["_law_thing"] (spF K R_low) := by
  refine G.ok sc__law_is_lowered (spF_len fun xs s x s' h => by cases h; rfl) (fun cdv A outer s H vs Q E hr ⟨M, xs, st, x, st', h, So, rx, q⟩ => ?_)
  cases h with
  | @mk d _ hb =>
  refine ⟨_, (pss_cons (ps_if (PW.pt (pw_or (pt_not (pt_val (pe_callB (cbk_isi (K := K)) (by rfl) Z.z_isinstance bt_isinstance (pa_cons (pv 0) (pa_cons (pe_bltn (v := .ty "tuple") (by rfl) Z.z_tuple bt_tuple rfl) pa_nil))))) (pw_or1 (pt_cmpR (opk_ne (K := K) hr.units) (pe_callB (cbk_len (K := K)) (by rfl) Z.z_len bt_len (pa_cons (pv 0) pa_nil)) (pe_int) (nomark _))))) (pss_one (ps_ret (pe_bl))) pss_nil)
      (pss_cons (ps_if (pt_not (pt_val (pe_callB (cbk_all (K := K) rfl) (by rfl) Z.z_all bt_all (pa_cons (pe_lc (own := [("_law_part", 1)]) rfl sc__law_is_lowered.nd (pik_tup (K := K) (pv 0)) (blkOk_by (own := [("_law_part", 1)]) (N := N__law_is_lowered) (sc := defScope s__law_is_lowered) (by decide +kernel)) (fun _ _ _ _ _ => (pg_name (i := 1) sc__law_is_lowered.nd rfl (Or.inl rfl))) (fun _ _ _ _ _ => pts_nil) (fun _ _ _ _ _ => pe_and (pe_callB (cbk_isi (K := K)) (by rfl) Z.z_isinstance bt_isinstance (pa_cons (pv 1) (pa_cons (pe_bltn (v := .ty "int") (by rfl) Z.z_int bt_int rfl) pa_nil))) (pe_one (pe_not (pe_callB (cbk_isi (K := K)) (by rfl) Z.z_isinstance bt_isinstance (pa_cons (pv 1) (pa_cons (pe_bltn (v := .ty "bool") (by rfl) Z.z_bool bt_bool rfl) pa_nil))))))) pa_nil)))) (pss_one (ps_ret (pe_bl))) pss_nil)
      (pss_one (ps_ret (pe_and (pe_cmpR op_gtA (pe_ix (ixk (K := K)) (pv 0) (pe_int) (fun _ _ => rfl)) (pe_int) (nomark _)) (pe_one (pe_cmpR (opk_eq (K := K) hr.units) (pe_cb c__law_frac (hr.mono (by decide)) (by rfl) (pa_cons (pe_ix (ixk (K := K)) (pv 0) (pe_int) (fun _ _ => rfl)) (pa_cons (pe_ix (ixk (K := K)) (pv 0) (pe_int) (fun _ _ => rfl)) pa_nil))) (pv 0) (nomark _)))))))), ?_⟩
  refine w_run So rx ?_
  try simp only [nox_K, cx_K, List.map_cons, List.map_nil]
  have q' := okr_0 q So.len
  walk_at "w"
  by_cases ht : ∃ ds, d = .tuple ds
  · obtain ⟨ds, rfl⟩ := ht
    walk_at "w"
    · intro c
      have e : isF (.tuple ds) = false := by
        match ds, c with
        | [], _ => rfl
        | [p], _ => cases p <;> rfl
        | [p, q], c => simp [isT, PyData.eqv] at c
        | p :: q :: r :: t, _ => cases p <;> first | rfl | (cases q <;> rfl)
      rw [e] at q'
      walk_at "w"
      exact q'
    · intro c
      obtain ⟨p, r, rfl⟩ : ∃ p r, ds = [p, r] := by
        match ds, c with
        | [], c => simp [isT, PyData.eqv] at c
        | [p], c => simp [isT, PyData.eqv] at c
        | [p, r], _ => exact ⟨p, r, rfl⟩
        | p :: q :: r :: t, c =>
          simp [isT, PyData.eqv] at c
          omega
      iterate 2 (walk_at "w")
      with_reducible apply w_if
      · with_reducible apply et_not
        with_reducible apply et_B
        with_reducible apply ev_cb
        · with_reducible apply eva_cons
          · with_reducible apply ev_new
            refine evn_lcT (S := fun _ => st) (ds := [p, r]) (es := ([p, r].map isNum).map PyData.bool) (by walk_at "ev") rfl (Nat.le_of_ble_eq_true rfl) ?_
            intro i d e hd he
            rw [List.map_map, List.getElem?_map, hd] at he
            cases he
            refine (?_ : Ev _ _ _ _ (.d (.bool (isI d && !isB d))) _)
            walk_at "ev"
          · walk_at "ea"
        · exact o_all
      · intro c2
        have e : isF (.tuple [p, r]) = false := isF_no (by
          simpa using c2)
        rw [e] at q'
        walk_at "w"
        exact q'
      · intro c2
        rw [Bool.not_eq_false'] at c2
        obtain ⟨a, rfl⟩ := isF_all c2 (p := p) (by simp)
        obtain ⟨b, rfl⟩ := isF_all c2 (p := r) (by simp)
        obtain ⟨ha, hb⟩ := hb a b rfl
        rw [← isF_eq] at q'
        walk_at "w"
        with_reducible apply w_ret
        · with_reducible apply ev_andV
          · walk_at "ev"
          · intro c3
            have hb0 : b ≠ 0 := by
              have := of_decide_eq_true c3
              omega
            with_reducible apply ev_op
            · with_reducible apply ev_call
              · walk_at "ea"
              · exact .mk hb0 ha hb
            · walk_at "ev"
            · walk_at "op"
          · intro _
            rfl
        · exact q'
  · have e1 : isT d = false := by
      cases d <;> first | rfl | exact absurd ⟨_, rfl⟩ ht
    have e : isF d = false := by
      cases d <;> first | rfl | exact absurd ⟨_, rfl⟩ ht
    rw [e] at q'
    with_reducible apply w_if (b := true)
    · with_reducible apply et_or1
      refine EvT.is (by walk_at "et") ?_
      rw [e1]
      rfl
    · intro _
      walk_at "w"
      exact q'
    · intro c
      cases c
/-! ### the same, kind by kind -/
inductive R_same (n : Nat) : Gr
  | mk {d s} (h : PyData.canLay0 d = true) (hd : PyData.depth d < n) (hz : nod d ≤ 1000000) (hn : n ≤ 60) : R_same n [.d d, .d d] s (.d (.bool true)) s
theorem ok_same (Z : Zx mg) (hm : mg "_law_same" = some (.ref f)) (G : Fun K "_law_same" "_law_same" s__law_same f fd) : ∀ n, FnOk P w K mg base CX0 n f fd ["_law_found", "_law_due"] (spF K (R_same n))
  | 0 => ⟨spF_len fun xs s x s' h => by cases h; rfl, fun A outer s H args us vs Q E hr e0 hb hv ⟨M, xs, st, x, st', h, _⟩ => by
    cases h with
    | mk h hd hz hn => exact absurd hd (by omega)⟩
  | n + 1 => by
    have c__law_same : Cb P w K mg base "_law_same" n [] (spF K (R_same n)) := cb_mk G hm (ok_same Z hm G n) fun _ _ _ _ _ _ us hl => match us, hl with | [_, _], _ => rfl
    refine G.ok sc__law_same (spF_len fun xs s x s' h => by cases h; rfl) (fun cdv A outer s H vs Q E hr ⟨M, xs, st, x, st', h, So, rx, q⟩ => ?_)
    cases h with
    | @mk d _ h hd hz hn =>
    refine ⟨_, (pss_cons (ps_if (pt_val (pe_callB (cbk_isiT (K := K)) (by rfl) Z.z_isinstance bt_isinstance (pa_cons (pv 1) (pa_cons (pe_tup (pa_cons (pe_bltn (v := .ty "list") (by rfl) Z.z_list bt_list rfl) (pa_cons (pe_bltn (v := .ty "tuple") (by rfl) Z.z_tuple bt_tuple rfl) pa_nil))) pa_nil)))) (pss_cons (ps_if (PW.pt (pw_or (pt_cmpR (opk_ne (K := K) hr.units) (pe_callB (cbk_isi (K := K)) (by rfl) Z.z_isinstance bt_isinstance (pa_cons (pv 0) (pa_cons (pe_bltn (v := .ty "list") (by rfl) Z.z_list bt_list rfl) pa_nil))) (pe_callB (cbk_isi (K := K)) (by rfl) Z.z_isinstance bt_isinstance (pa_cons (pv 1) (pa_cons (pe_bltn (v := .ty "list") (by rfl) Z.z_list bt_list rfl) pa_nil))) (nomark _)) (pw_or1 (pt_cmpR (opk_ne (K := K) hr.units) (pe_callB (cbk_isi (K := K)) (by rfl) Z.z_isinstance bt_isinstance (pa_cons (pv 0) (pa_cons (pe_bltn (v := .ty "tuple") (by rfl) Z.z_tuple bt_tuple rfl) pa_nil))) (pe_callB (cbk_isi (K := K)) (by rfl) Z.z_isinstance bt_isinstance (pa_cons (pv 1) (pa_cons (pe_bltn (v := .ty "tuple") (by rfl) Z.z_tuple bt_tuple rfl) pa_nil))) (nomark _))))) (pss_one (ps_ret (pe_bl))) pss_nil)
      (pss_one (ps_ret (pe_and (pe_cmpR (opk_eq (K := K) hr.units) (pe_callB (cbk_len (K := K)) (by rfl) Z.z_len bt_len (pa_cons (pv 0) pa_nil)) (pe_callB (cbk_len (K := K)) (by rfl) Z.z_len bt_len (pa_cons (pv 1) pa_nil)) (nomark _)) (pe_one (pe_callB (cbk_all (K := K) rfl) (by rfl) Z.z_all bt_all (pa_cons (pe_lc (own := [("_law_here", 2), ("_law_there", 3)]) rfl sc__law_same.nd (pik_zip (K := K) (by rfl) Z.z_zip (pa_cons (pv 0) (pa_cons (pv 1) pa_nil))) (blkOk_by (own := [("_law_here", 2), ("_law_there", 3)]) (N := N__law_same) (sc := defScope s__law_same) (by decide +kernel)) (fun _ _ _ _ _ => (pgk_tup (K := K) 2 (by rfl) (pgs_cons (pg_name (i := 2) sc__law_same.nd rfl (Or.inl rfl)) (pgs_cons (pg_name (i := 3) sc__law_same.nd rfl (Or.inl rfl)) pgs_nil)))) (fun _ _ _ _ _ => pts_nil) (fun _ _ _ _ _ => pe_cb c__law_same (hr.mono (by omega)) (by rfl) (pa_cons (pv 2) (pa_cons (pv 3) pa_nil)))) pa_nil))))))) pss_nil)
      (pss_cons (ps_if (PW.pt (pw_or (pt_cmpR (opk_ne (K := K) hr.units) (pe_callB (cbk_isi (K := K)) (by rfl) Z.z_isinstance bt_isinstance (pa_cons (pv 0) (pa_cons (pe_bltn (v := .ty "bool") (by rfl) Z.z_bool bt_bool rfl) pa_nil))) (pe_callB (cbk_isi (K := K)) (by rfl) Z.z_isinstance bt_isinstance (pa_cons (pv 1) (pa_cons (pe_bltn (v := .ty "bool") (by rfl) Z.z_bool bt_bool rfl) pa_nil))) (nomark _)) (pw_or1 (pt_cmpR (opk_ne (K := K) hr.units) (pe_callB (cbk_isi (K := K)) (by rfl) Z.z_isinstance bt_isinstance (pa_cons (pv 0) (pa_cons (pe_bltn (v := .ty "int") (by rfl) Z.z_int bt_int rfl) pa_nil))) (pe_callB (cbk_isi (K := K)) (by rfl) Z.z_isinstance bt_isinstance (pa_cons (pv 1) (pa_cons (pe_bltn (v := .ty "int") (by rfl) Z.z_int bt_int rfl) pa_nil))) (nomark _))))) (pss_one (ps_ret (pe_bl))) pss_nil)
      (pss_one (ps_ret (pe_cmpR (opk_eq (K := K) hr.units) (pv 0) (pv 1) (nomark _)))))), ?_⟩
    refine w_run So rx ?_
    try simp only [nox_K, cx_K, List.map_cons, List.map_nil]
    have q' := okr_0 q So.len
    have sB : ∀ b : Bool, SeqAt.shaped (.bool b) = true := fun _ => rfl
    have self : ∀ b : Bool, PyData.eqv (.bool b) (.bool b) = true := fun b => by simp [PyData.eqv]
    walk_at "w"
    by_cases hk : ∃ (ds : List PyData) (wr : List PyData → PyData), (wr = PyData.list ∨ wr = PyData.tuple) ∧ d = wr ds
    · obtain ⟨ds, wr, hw, rfl⟩ := hk
      have hlay : PyData.canLayAll0 ds = true := by
        rcases hw with hw | hw <;> (subst hw; simpa [PyData.canLay0] using h)
      have hdep : PyData.depthAll ds + 1 < n + 1 := by
        rcases hw with hw | hw <;> (subst hw; simpa [PyData.depth] using hd)
      have hnod : nodAll ds ≤ 1000000 := by
        rcases hw with hw | hw <;> (subst hw; simpa [nod] using hz)
      have main : ∀ {s2 : Sto}, EvN K (tLc (RZ.iZipA K (tCons (tVar 0) (tCons (tVar 1) tNil))) (gTup K 2 (gCons (gName 2) (gCons (gName 3) gNil))) tYes (tCall (spF K (R_same n)) [] E0 (tCons (tVar 2) (tCons (tVar 3) tNil))) [2, 3]) (rho0 N__law_same [.d (wr ds), .d (wr ds)]) s2 ((ds.map fun _ => true).map PyData.bool) s2 := fun {s2} => by
        refine evn_lcZ (S := fun _ => s2) (ds := ds) (fs := ds) hw (by walk_at "ea") rfl (by simp) ?_ ?_
        · rw [List.length_map, List.length_map]
          exact Nat.le_trans (nod_len ds) hnod
        · intro i d f e h1 h2 h3
          rw [h1] at h2
          cases h2
          rw [List.map_map, List.getElem?_map, h1] at h3
          cases h3
          with_reducible apply ev_call
          · walk_at "ea"
          · refine .mk (lay_mem hlay h1) ?_ (Nat.le_trans (nod_mem h1) hnod) (by omega)
            have := dep_mem h1
            omega
      have fin : ∀ {s2 : Sto} {t1 : TE} {D : Ends}, D.rt = Q → s2 = st → Ev K t1 (rho0 N__law_same [.d (wr ds), .d (wr ds)]) s2 (.d (.bool (PyData.eqv (.int (ds.length : Nat)) (.int (ds.length : Nat))))) s2 →
          W K M H [] (tRet (tAndV t1 (tCB (rAll K) (tCons (tLc (RZ.iZipA K (tCons (tVar 0) (tCons (tVar 1) tNil))) (gTup K 2 (gCons (gName 2) (gCons (gName 3) gNil))) tYes (tCall (spF K (R_same n)) [] E0 (tCons (tVar 2) (tCons (tVar 3) tNil))) [2, 3]) tNil))) D) (rho0 N__law_same [.d (wr ds), .d (wr ds)]) s2 := fun {s2 t1 D} hD hs h1 => by
        subst hs
        have e1 : PyData.eqv (.int (ds.length : Nat)) (.int (ds.length : Nat)) = true := by simp [PyData.eqv]
        rw [e1] at h1
        refine w_ret (x := .d (.bool true)) (s1 := s2) ?_ (by rw [hD]; exact q')
        refine (ev_andV (b := true) (c := (ds.map fun _ => true).all id) h1 (fun _ => ?_) (fun c => by cases c)).is (by rw [all_true]; rfl)
        refine ev_cb (eva_cons (ev_new main) eva_nil) o_all
      rcases hw with hw | hw
      · subst hw
        walk_at "w"
        · intro c
          iterate 2 (walk_at "w")
          · intro c2
            simp [PyData.eqv] at c2
          · intro c2
            walk_at "w"
            with_reducible apply fin
            · rfl
            · rfl
            · walk_at "ev"
        · intro c
          simp [isL] at c
      · subst hw
        walk_at "w"
        · intro c
          iterate 2 (walk_at "w")
          · intro c2
            simp [PyData.eqv] at c2
          · intro c2
            walk_at "w"
            with_reducible apply fin
            · rfl
            · rfl
            · walk_at "ev"
        · intro c
          simp [isT] at c
    · have e1 : isL d = false := by
        cases d <;> first | rfl | exact absurd ⟨_, _, .inl rfl, rfl⟩ hk
      have e2 : isT d = false := by
        cases d <;> first | rfl | exact absurd ⟨_, _, .inr rfl, rfl⟩ hk
      have hsd : SeqAt.shaped d = true := shaped_of h (by omega)
      have e3 := eqv_self d h
      walk_at "w"
      · intro c
        rw [e1, e2] at c
        cases c
      · intro c
        iterate 3 (walk_at "w")
        · intro c2
          simp [PyData.eqv] at c2
        · intro c2
          iterate 2 (walk_at "w")
          exact q'.is (by rw [e3])
end
end K01
namespace K01
open PySem L2 Pw Km
section
local macro_rules | `(tactic| walk_at "sd") => `(tactic| first | rfl | assumption | exact Nat.le_of_ble_eq_true rfl | decide | omega | (walk_at "sd2"))
local macro_rules | `(tactic| walk_at "sd2") => `(tactic| first | exact cm_sm (by assumption) (by assumption) | exact cf_sm (by assumption) (by assumption) | ((with_reducible apply gs); (walk_at "sd")) | exact cm_fm7 | exact cm_if | exact cm_l (by omega) (by omega) | exact cm_r (by omega) (by omega) | exact cf_c (by omega) (by omega))
local macro_rules | `(tactic| walk_at "isi") => `(tactic| with_reducible first | exact kit_int | exact kit_bool | exact kit_tuple | exact kit_list | exact kit_str)
local macro_rules | `(tactic| walk_at "und") => `(tactic| with_reducible repeat (first | exact Und.nil | apply Und.cons))
local macro_rules | `(tactic| walk_at "op") => `(tactic| (first
  | with_reducible exact o_add | with_reducible exact o_minus | with_reducible exact o_lt | with_reducible exact o_gt | with_reducible exact o_le | with_reducible exact o_ge | with_reducible exact o_neg
  | with_reducible exact o_isN | with_reducible exact o_isntN | with_reducible exact o_isB | with_reducible exact o_isntB | with_reducible exact o_neS | with_reducible exact o_eqS
  | with_reducible exact o_abs | with_reducible exact o_intB | with_reducible exact o_min2 | with_reducible exact o_max2 | with_reducible exact o_lenL | with_reducible exact o_lenT | with_reducible exact o_lenC | with_reducible exact o_gcd
  | with_reducible apply o_ixT | with_reducible apply o_ixL | with_reducible apply o_ixM | with_reducible apply o_ixS | with_reducible apply o_lenM
  | with_reducible apply o_mul | with_reducible apply o_fdiv | with_reducible apply o_mod | with_reducible apply o_pow | with_reducible apply o_eq | with_reducible apply o_ne | with_reducible apply o_catT | with_reducible apply o_repr | with_reducible apply o_all) <;> walk_at "sd")
local macro_rules | `(tactic| walk_at "opn") => `(tactic| (first
  | with_reducible apply o_cat | with_reducible apply o_repI | with_reducible exact o_listT | with_reducible exact o_listL) <;> walk_at "sd")
local macro_rules | `(tactic| walk_at "ea") => `(tactic| first
  | with_reducible exact eva_nil
  | ((with_reducible apply eva_cons); (walk_at "ev"); (walk_at "ea")))
local macro_rules | `(tactic| walk_at "call") => `(tactic| fail)
local macro_rules | `(tactic| walk_at "evn") => `(tactic| first
  | ((with_reducible apply evn_lstU); (walk_at "ea"); (walk_at "und"); (walk_at "sd"))
  | ((with_reducible apply evn_op); (walk_at "ev"); (walk_at "ev"); (walk_at "opn"))
  | ((with_reducible apply evn_cb); (walk_at "ea"); (walk_at "opn"))
  | ((with_reducible apply evn_call); (walk_at "ea"); (walk_at "call")))
local macro_rules | `(tactic| walk_at "ev") => `(tactic| first
  | with_reducible exact ev_int | with_reducible exact ev_bl | with_reducible exact ev_non | with_reducible exact ev_str
  | ((with_reducible apply ev_var); rfl)
  | ((with_reducible apply ev_op); (walk_at "ev"); (walk_at "ev"); (walk_at "op"))
  | ((with_reducible apply ev_un); (walk_at "ev"); (walk_at "op"))
  | ((with_reducible apply ev_call); (walk_at "ea"); (walk_at "call"))
  | ((with_reducible apply ev_callD); (walk_at "ea"); (intro _ _; exact rxs_1); (walk_at "call"))
  | ((with_reducible apply ev_callK); (walk_at "ea"); rfl; (intro _ _ _ hh; first | exact rxs_swap2 hh | exact rxs_same1 hh); (walk_at "call"))
  | ((with_reducible apply ev_isi); (walk_at "ev"); (walk_at "isi"))
  | ((with_reducible apply ev_isi2); (walk_at "ev"); (walk_at "isi"); (walk_at "isi"))
  | ((with_reducible apply ev_cb); (walk_at "ea"); (walk_at "op"))
  | ((with_reducible apply ev_tupU); (walk_at "ea"); (walk_at "und"); (walk_at "sd"))
  | ((with_reducible apply ev_new); (walk_at "evn"))
  | ((with_reducible apply ev_slT); (walk_at "ev"); (walk_at "eo"); (walk_at "eo"))
  | ((with_reducible apply ev_andV); (walk_at "ev"); (intro _; walk_at "ev"); (intro _; rfl))
  | ((with_reducible apply ev_orV); (walk_at "ev"); (intro _; walk_at "ev"); (intro _; rfl))
  | ((with_reducible apply ev_notV); (walk_at "ev")))
local macro_rules | `(tactic| walk_at "eo") => `(tactic| first
  | with_reducible exact eo_none
  | ((with_reducible apply eo_some); (walk_at "ev")))
local macro_rules | `(tactic| walk_at "et") => `(tactic| first
  | ((with_reducible apply et_test); (walk_at "ev"))
  | ((with_reducible apply et_B); (walk_at "ev"))
  | ((with_reducible apply et_not); (walk_at "et"))
  | ((with_reducible apply et_and); (walk_at "et"); (intro _; walk_at "et"); (intro _; rfl))
  | ((with_reducible apply et_or); (walk_at "et"); (intro _; walk_at "et"); (intro _; rfl)))
local macro_rules | `(tactic| walk_at "w") => `(tactic| first
  | (with_reducible apply w_seq)
  | (with_reducible apply w_next)
  | ((with_reducible apply w_asg); (walk_at "ev"))
  | ((with_reducible apply w_ret); (walk_at "ev"))
  | ((with_reducible apply w_drop); (walk_at "ev"))
  | ((with_reducible apply w_par); (walk_at "ea"))
  | ((with_reducible apply w_tup2); (walk_at "ev"))
  | ((with_reducible apply w_tup3); (walk_at "ev"))
  | ((with_reducible apply w_setI); (walk_at "ev"); (walk_at "ev"); (walk_at "ev"); (walk_at "sd"); (walk_at "sd"))
  | ((with_reducible apply w_if); (walk_at "et")))

variable {P : Program} {w : World} {K : Pw.Fg} {mg : Str → Option Value} {base : Heap} {f : Addr} {fd : FuncData}
inductive R_told : Gr
  | mk {a b c d s} (hb : b ≠ 0) (hd : d ≠ 0) (ha' : Sm 1000 a) (hb' : Sm 1000 b) (hc' : Sm 1000 c) (hd' : Sm 1000 d) : R_told [.d (q2 a b), .d (q2 c d)] s (.d (.bool true)) s
section
local macro_rules | `(tactic| walk_at "call") => `(tactic| first
  | exact R_plus.mk (by assumption) (by assumption) (by assumption) (by assumption) (by assumption) (by assumption)
  | exact R_minus.mk (by assumption) (by assumption) (by assumption) (by assumption) (by assumption) (by assumption)
  | exact R_times.mk (by assumption) (by assumption) (by assumption) (by assumption) (by assumption) (by assumption)
  | exact R_over.mk (by assumption) (by assumption) (by assumption) (by assumption) (by assumption) (by assumption)
  | exact R_same.mk (n := 5) rfl (Nat.le_of_ble_eq_true rfl) (Nat.le_of_ble_eq_true rfl) (by decide))
theorem ok_told (Z : Zx mg) (c_plus : Cb P w K mg base "plus" 2 [] (spF K R_plus)) (c_minus : Cb P w K mg base "minus" 2 [] (spF K R_minus)) (c_times : Cb P w K mg base "times" 2 [] (spF K R_times)) (c_over : Cb P w K mg base "over" 2 [] (spF K R_over))
    (k_plus : Ck P w K mg base "plus" 2 ["other", "one"] swap2 (spF K R_plus)) (k_minus : Ck P w K mg base "minus" 2 ["other", "one"] swap2 (spF K R_minus)) (k_times : Ck P w K mg base "times" 2 ["other", "one"] swap2 (spF K R_times)) (k_over : Ck P w K mg base "over" 2 ["other", "one"] swap2 (spF K R_over))
    (c__law_plus : Cb P w K mg base "_law_plus" 2 [] (spF K R_plus)) (c__law_less : Cb P w K mg base "_law_less" 2 [] (spF K R_minus)) (c__law_times : Cb P w K mg base "_law_times" 2 [] (spF K R_times)) (c__law_over : Cb P w K mg base "_law_over" 2 [] (spF K R_over))
    (c__law_same : Cb P w K mg base "_law_same" 5 [] (spF K (R_same 5)))
    (G : Fun K "_law_told_right" "_law_told_right" s__law_told_right f fd) : FnOk P w K mg base CX0 6 f fd ["_law_first", "_law_second"] (spF K R_told) := by
  refine G.ok sc__law_told_right (spF_len fun xs s x s' h => by cases h; rfl) (fun cdv A outer s H vs Q E hr ⟨M, xs, st, x, st', h, So, rx, q⟩ => ?_)
  cases h with
  | @mk a b c d _ hb hd ha' hb' hc' hd' =>
  refine ⟨_, (pss_cons (ps_set (i := 2) sc__law_told_right.nd rfl (.inl rfl) (pe_lst (pa_cons (pe_cb c_plus (hr.mono (by decide)) (by rfl) (pa_cons (pv 0) (pa_cons (pv 1) pa_nil))) (pa_cons (pe_cb c_minus (hr.mono (by decide)) (by rfl) (pa_cons (pv 0) (pa_cons (pv 1) pa_nil))) (pa_cons (pe_cb c_times (hr.mono (by decide)) (by rfl) (pa_cons (pv 0) (pa_cons (pv 1) pa_nil))) (pa_cons (pe_ck k_plus (hr.mono (by decide)) (by rfl) (pk_cons (pv 1) (pk_cons (pv 0) pk_nil))) pa_nil))))))
      (pss_cons (ps_set (i := 2) sc__law_told_right.nd rfl (.inl rfl) (pe_op (opk_plus (K := K)) (pv 2) (pe_lst (pa_cons (pe_ck k_minus (hr.mono (by decide)) (by rfl) (pk_cons (pv 1) (pk_cons (pv 0) pk_nil))) (pa_cons (pe_ck k_times (hr.mono (by decide)) (by rfl) (pk_cons (pv 1) (pk_cons (pv 0) pk_nil))) pa_nil)))))
      (pss_cons (ps_set (i := 3) sc__law_told_right.nd rfl (.inl rfl) (pe_lst (pa_cons (pe_cb c__law_plus (hr.mono (by decide)) (by rfl) (pa_cons (pv 0) (pa_cons (pv 1) pa_nil))) (pa_cons (pe_cb c__law_less (hr.mono (by decide)) (by rfl) (pa_cons (pv 0) (pa_cons (pv 1) pa_nil))) (pa_cons (pe_cb c__law_times (hr.mono (by decide)) (by rfl) (pa_cons (pv 0) (pa_cons (pv 1) pa_nil))) pa_nil)))))
      (pss_cons (ps_if (pt_cmpR (opk_ne (K := K) hr.units) (pe_ix (ixk (K := K)) (pv 1) (pe_int) (fun _ _ => rfl)) (pe_int) (nomark _)) (pss_cons (ps_set (i := 2) sc__law_told_right.nd rfl (.inl rfl) (pe_op (opk_plus (K := K)) (pv 2) (pe_lst (pa_cons (pe_cb c_over (hr.mono (by decide)) (by rfl) (pa_cons (pv 0) (pa_cons (pv 1) pa_nil))) (pa_cons (pe_ck k_over (hr.mono (by decide)) (by rfl) (pk_cons (pv 1) (pk_cons (pv 0) pk_nil))) pa_nil)))))
      (pss_one (ps_ret (pe_cb c__law_same (hr.mono (by omega)) (by rfl) (pa_cons (pv 2) (pa_cons (pe_op (opk_plus (K := K)) (pe_op (opk_plus (K := K)) (pv 3) (pv 3)) (pe_op op_times (pe_lst (pa_cons (pe_cb c__law_over (hr.mono (by decide)) (by rfl) (pa_cons (pv 0) (pa_cons (pv 1) pa_nil))) pa_nil)) (pe_int))) pa_nil)))))) pss_nil)
      (pss_one (ps_ret (pe_cb c__law_same (hr.mono (by omega)) (by rfl) (pa_cons (pv 2) (pa_cons (pe_op (opk_plus (K := K)) (pv 3) (pv 3)) pa_nil))))))))), ?_⟩
  refine w_run So rx ?_
  try simp only [nox_K, cx_K, List.map_cons, List.map_nil]
  have q' := okr_0 q So.len
  iterate 8 (walk_at "w")
  · intro c1
    have hc : c ≠ 0 := by
      intro e
      subst e
      simp [PyData.eqv] at c1
    iterate 3 (walk_at "w")
    exact q'
  · intro c1
    iterate 2 (walk_at "w")
    exact q'
end
inductive R_one : Gr
  | mk {a b s} (hb : b ≠ 0) (hb' : Sm 1000 b) (hl : isF (q2 a b) = true) : R_one [.d (q2 a b)] s (.d (.bool true)) s
section
local macro_rules | `(tactic| walk_at "call") => `(tactic| first
  | exact R_sign.mk
  | exact R_floor.mk (by assumption) (by assumption)
  | exact R_isF.mk
  | exact R_same.mk (n := 5) rfl (Nat.le_of_ble_eq_true rfl) (Nat.le_of_ble_eq_true rfl) (by decide))
theorem ok_one (Z : Zx mg) (c_sign_of : Cb P w K mg base "sign_of" 1 [] (spF K R_sign)) (c_floor_of : Cb P w K mg base "floor_of" 1 [] (spF K R_floor)) (c_is_frac : Cb P w K mg base "is_frac" 2 [] (spF K R_isF))
    (k_sign_of : Ck P w K mg base "sign_of" 1 ["one"] same1 (spF K R_sign)) (k_floor_of : Ck P w K mg base "floor_of" 1 ["one"] same1 (spF K R_floor)) (c__law_same : Cb P w K mg base "_law_same" 5 [] (spF K (R_same 5)))
    (G : Fun K "_law_one_right" "_law_one_right" s__law_one_right f fd) : FnOk P w K mg base CX0 6 f fd ["_law_first"] (spF K R_one) := by
  refine G.ok sc__law_one_right (spF_len fun xs s x s' h => by cases h; rfl) (fun cdv A outer s H vs Q E hr ⟨M, xs, st, x, st', h, So, rx, q⟩ => ?_)
  cases h with
  | @mk a b _ hb hb' hl =>
  refine ⟨_, (pss_cons (ps_asg (pv 0) (pgk_tup (K := K) 2 (by rfl) (pgs_cons (pg_name (i := 1) sc__law_one_right.nd rfl (Or.inl rfl)) (pgs_cons (pg_name (i := 2) sc__law_one_right.nd rfl (Or.inl rfl)) pgs_nil))))
      (pss_cons (ps_par (i := 3) (j := 4) (by rfl) sc__law_one_right.nd rfl rfl (by decide) rfl rfl (pa_cons (pe_op op_minus (pe_callTy cb_int (by rfl) Z.z_int bt_int (pa_cons (pe_cmpR op_gtA (pv 1) (pe_int) (nomark _)) pa_nil)) (pe_callTy cb_int (by rfl) Z.z_int bt_int (pa_cons (pe_cmpR op_ltA (pv 1) (pe_int) (nomark _)) pa_nil))) (pa_cons (pe_op op_fdivA (pv 1) (pv 2)) pa_nil)) (by rfl))
      (pss_cons (ps_set (i := 5) sc__law_one_right.nd rfl (.inl rfl) (pe_lst (pa_cons (pe_cb c_sign_of (hr.mono (by decide)) (by rfl) (pa_cons (pv 0) pa_nil)) (pa_cons (pe_cb c_floor_of (hr.mono (by decide)) (by rfl) (pa_cons (pv 0) pa_nil)) (pa_cons (pe_ck k_sign_of (hr.mono (by decide)) (by rfl) (pk_cons (pv 0) pk_nil)) (pa_cons (pe_ck k_floor_of (hr.mono (by decide)) (by rfl) (pk_cons (pv 0) pk_nil)) pa_nil))))))
      (pss_one (ps_ret (pe_cb c__law_same (hr.mono (by omega)) (by rfl) (pa_cons (pe_op (opk_plus (K := K)) (pv 5) (pe_lst (pa_cons (pe_cb c_is_frac (hr.mono (by decide)) (by rfl) (pa_cons (pv 0) pa_nil)) pa_nil))) (pa_cons (pe_lst (pa_cons (pv 3) (pa_cons (pv 4) (pa_cons (pv 3) (pa_cons (pv 4) (pa_cons (pe_bl) pa_nil)))))) pa_nil)))))))), ?_⟩
  refine w_run So rx ?_
  try simp only [nox_K, cx_K, List.map_cons, List.map_nil]
  have q' := okr_0 q So.len
  have hcf : CF a b := cf_sm hb hb'
  have hb8 : Sm 8000 b := hb'.mono
  have e : (if decide (0 < a) = true then (1 : Int) else 0) - (if decide (a < 0) = true then 1 else 0) = (if 0 < a then 1 else if a < 0 then -1 else 0) := by
    by_cases h1 : 0 < a
    · have h2 : ¬ a < 0 := by omega
      simp [h1, h2]
    · by_cases h2 : a < 0
      · simp [h1, h2]
      · simp [h1, h2]
  iterate 3 (walk_at "w")
  with_reducible apply w_par
  · with_reducible apply eva_cons
    · exact Ev.is (by walk_at "ev") (congrArg (fun i => Dx.d (.int i)) e)
    · walk_at "ea"
  · iterate 2 (walk_at "w")
    with_reducible apply w_ret
    · with_reducible apply ev_call
      · with_reducible apply eva_cons
        · refine Ev.is (x := .d (.list ([.int (if 0 < a then 1 else if a < 0 then -1 else 0), .int (a.fdiv b), .int (if 0 < a then 1 else if a < 0 then -1 else 0), .int (a.fdiv b)] ++ [.bool (isF (q2 a b))]))) (x' := .d (.list ([.int (if 0 < a then 1 else if a < 0 then -1 else 0), .int (a.fdiv b), .int (if 0 < a then 1 else if a < 0 then -1 else 0), .int (a.fdiv b)] ++ [.bool true]))) (by walk_at "ev") ?_
          rw [hl]
        · walk_at "ea"
      · exact R_same.mk (n := 5) rfl (Nat.le_of_ble_eq_true rfl) (Nat.le_of_ble_eq_true rfl) (by decide)
    · exact q'
end
end
end K01
namespace K01
open PySem L2 Pw Km
theorem lw1 {u : Int} : lw u 1 = q2 u 1 := by
  show PyData.tuple [.int (lwN u 1), .int (lwD u 1)] = PyData.tuple [.int u, .int 1]
  rw [lw_one.1, lw_one.2]
/-- a lowered fraction, of a size -/
structure Fq (n : Nat) (d : PyData) : Prop where
  ex : ∃ a b, d = q2 a b ∧ b ≠ 0 ∧ Sm n a ∧ Sm n b ∧ isF (q2 a b) = true
theorem fq_lw {u v : Int} {n m k : Nat} (h : v ≠ 0) (hu : Sm n u) (hv : Sm m v) (hn : n ≤ k := by decide) (hm : m ≤ k := by decide) : Fq k (lw u v) :=
  ⟨_, _, rfl, by have := lwD_pos (u := u) h; omega, (hu.mono hn).le (lwN_le h), (hv.mono hm).le (lwD_le h), isF_lw h⟩
theorem Fq.mono {n m : Nat} {d : PyData} (h : Fq n d) (e : n ≤ m := by decide) : Fq m d := by
  obtain ⟨a, b, h1, h2, h3, h4, h5⟩ := h.ex
  exact ⟨a, b, h1, h2, h3.mono e, h4.mono e, h5⟩
abbrev rc (ns : List Int) (k : Nat) : En := [some (.scr ns), some (.d (.int (k : Int))), some (.loc 0), none, none, none, none, none, none, none, none, none, none, none, none, none, none, none]
section
local macro_rules | `(tactic| walk_at "sd") => `(tactic| first | rfl | assumption | exact Nat.le_of_ble_eq_true rfl | decide | omega | (walk_at "sd2"))
local macro_rules | `(tactic| walk_at "sd2") => `(tactic| first | exact cm_sm (by assumption) (by assumption) | exact cf_sm (by assumption) (by assumption) | ((with_reducible apply gs); (walk_at "sd")) | exact cm_fm7 | exact cm_if | exact cm_l (by omega) (by omega) | exact cm_r (by omega) (by omega) | exact cf_c (by omega) (by omega))
local macro_rules | `(tactic| walk_at "isi") => `(tactic| with_reducible first | exact kit_int | exact kit_bool | exact kit_tuple | exact kit_list | exact kit_str)
local macro_rules | `(tactic| walk_at "und") => `(tactic| with_reducible repeat (first | exact Und.nil | apply Und.cons))
local macro_rules | `(tactic| walk_at "op") => `(tactic| (first
  | with_reducible exact o_add | with_reducible exact o_minus | with_reducible exact o_lt | with_reducible exact o_gt | with_reducible exact o_le | with_reducible exact o_ge | with_reducible exact o_neg
  | with_reducible exact o_isN | with_reducible exact o_isntN | with_reducible exact o_isB | with_reducible exact o_isntB | with_reducible exact o_neS | with_reducible exact o_eqS
  | with_reducible exact o_abs | with_reducible exact o_intB | with_reducible exact o_min2 | with_reducible exact o_max2 | with_reducible exact o_lenL | with_reducible exact o_lenT | with_reducible exact o_lenC | with_reducible exact o_gcd
  | with_reducible apply o_ixT | with_reducible apply o_ixL | with_reducible apply o_ixM | with_reducible apply o_ixS | with_reducible apply o_lenM
  | with_reducible apply o_mul | with_reducible apply o_fdiv | with_reducible apply o_mod | with_reducible apply o_pow | with_reducible apply o_eq | with_reducible apply o_ne | with_reducible apply o_catT | with_reducible apply o_repr | with_reducible apply o_all) <;> walk_at "sd")
local macro_rules | `(tactic| walk_at "opn") => `(tactic| (first
  | with_reducible apply o_cat | with_reducible apply o_repI | with_reducible exact o_listT | with_reducible exact o_listL) <;> walk_at "sd")
local macro_rules | `(tactic| walk_at "ea") => `(tactic| first
  | with_reducible exact eva_nil
  | ((with_reducible apply eva_cons); (walk_at "ev"); (walk_at "ea")))
local macro_rules | `(tactic| walk_at "call") => `(tactic| fail)
local macro_rules | `(tactic| walk_at "evn") => `(tactic| first
  | ((with_reducible apply evn_lstU); (walk_at "ea"); (walk_at "und"); (walk_at "sd"))
  | ((with_reducible apply evn_op); (walk_at "ev"); (walk_at "ev"); (walk_at "opn"))
  | ((with_reducible apply evn_cb); (walk_at "ea"); (walk_at "opn"))
  | ((with_reducible apply evn_call); (walk_at "ea"); (walk_at "call")))
local macro_rules | `(tactic| walk_at "ev") => `(tactic| first
  | with_reducible exact ev_int | with_reducible exact ev_bl | with_reducible exact ev_non | with_reducible exact ev_str
  | ((with_reducible apply ev_var); rfl)
  | ((with_reducible apply ev_op); (walk_at "ev"); (walk_at "ev"); (walk_at "op"))
  | ((with_reducible apply ev_un); (walk_at "ev"); (walk_at "op"))
  | ((with_reducible apply ev_call); (walk_at "ea"); (walk_at "call"))
  | ((with_reducible apply ev_callD); (walk_at "ea"); (intro _ _; exact rxs_1); (walk_at "call"))
  | ((with_reducible apply ev_callK); (walk_at "ea"); rfl; (intro _ _ _ hh; first | exact rxs_swap2 hh | exact rxs_same1 hh); (walk_at "call"))
  | ((with_reducible apply ev_isi); (walk_at "ev"); (walk_at "isi"))
  | ((with_reducible apply ev_isi2); (walk_at "ev"); (walk_at "isi"); (walk_at "isi"))
  | ((with_reducible apply ev_cb); (walk_at "ea"); (walk_at "op"))
  | ((with_reducible apply ev_tupU); (walk_at "ea"); (walk_at "und"); (walk_at "sd"))
  | ((with_reducible apply ev_new); (walk_at "evn"))
  | ((with_reducible apply ev_slT); (walk_at "ev"); (walk_at "eo"); (walk_at "eo"))
  | ((with_reducible apply ev_andV); (walk_at "ev"); (intro _; walk_at "ev"); (intro _; rfl))
  | ((with_reducible apply ev_orV); (walk_at "ev"); (intro _; walk_at "ev"); (intro _; rfl))
  | ((with_reducible apply ev_notV); (walk_at "ev")))
local macro_rules | `(tactic| walk_at "eo") => `(tactic| first
  | with_reducible exact eo_none
  | ((with_reducible apply eo_some); (walk_at "ev")))
local macro_rules | `(tactic| walk_at "et") => `(tactic| first
  | ((with_reducible apply et_test); (walk_at "ev"))
  | ((with_reducible apply et_B); (walk_at "ev"))
  | ((with_reducible apply et_not); (walk_at "et"))
  | ((with_reducible apply et_and); (walk_at "et"); (intro _; walk_at "et"); (intro _; rfl))
  | ((with_reducible apply et_or); (walk_at "et"); (intro _; walk_at "et"); (intro _; rfl)))
local macro_rules | `(tactic| walk_at "w") => `(tactic| first
  | (with_reducible apply w_seq)
  | (with_reducible apply w_next)
  | ((with_reducible apply w_asg); (walk_at "ev"))
  | ((with_reducible apply w_ret); (walk_at "ev"))
  | ((with_reducible apply w_drop); (walk_at "ev"))
  | ((with_reducible apply w_par); (walk_at "ea"))
  | ((with_reducible apply w_tup2); (walk_at "ev"))
  | ((with_reducible apply w_tup3); (walk_at "ev"))
  | ((with_reducible apply w_setI); (walk_at "ev"); (walk_at "ev"); (walk_at "ev"); (walk_at "sd"); (walk_at "sd"))
  | ((with_reducible apply w_if); (walk_at "et")))

variable {P : Program} {w : World} {K : Pw.Fg} {mg : Str → Option Value} {base : Heap} {f : Addr} {fd : FuncData}
local macro_rules | `(tactic| walk_at "call") => `(tactic| first
  | exact R_take.mk rfl (by decide) (by decide) (by assumption) (by omega)
  | exact R_draw.mk rfl (by decide) (by decide) (by assumption) (by omega)
  | exact fr_mk (by assumption) (by assumption) (by assumption)
  | exact R_plus.mk (by assumption) (by assumption) (by assumption) (by assumption) (by assumption) (by assumption)
  | exact R_times.mk (by assumption) (by assumption) (by assumption) (by assumption) (by assumption) (by assumption)
  | exact R_isF.mk)
theorem w_law {scr a : Addr} {ns : List Int} {cdv : Value} {s : Shared} {H : Hp} (Z : Zx mg) (hl : ns.length ≤ 63)
    (hr : Room 7 (PySem.callerA.deeper (PyProof.Rows.envOfC "law" (defScope s_law) s.heap.objs.size f cdv)))
    (hgd : (cxOf CX0 P w K mg base N_law "law" (defScope s_law) f cdv PySem.callerA [] s H E0).nox.A.guards = some [])
    (c__law_box : Cb P w K mg base "_law_box" 2 [] (spN K R_box)) (c__law_take : Cb P w K mg base "_law_take" 1 [] (spF K R_take)) (c__law_of : Cb P w K mg base "_law_of" 2 [] (spF K R_of))
    (c__law_frac : Cb P w K mg base "_law_frac" 1 [] (spF K R_frac)) (c_frac : Cb P w K mg base "frac" 1 [] (spF K R_frac)) (k_frac : Ck P w K mg base "frac" 1 ["bottom", "top"] swap2 (spF K R_frac)) (c_fracD1 : Cb P w K mg base "frac" 1 [.int 1] (spF K R_frac))
    (c__law_same : Cb P w K mg base "_law_same" 5 [] (spF K (R_same 5))) (c__law_draw : Cb P w K mg base "_law_draw" 3 [] (spF K R_draw)) (c_plus : Cb P w K mg base "plus" 2 [] (spF K R_plus)) (c_times : Cb P w K mg base "times" 2 [] (spF K R_times))
    (c__law_told_right : Cb P w K mg base "_law_told_right" 6 [] (spF K R_told)) (c__law_one_right : Cb P w K mg base "_law_one_right" 6 [] (spF K R_one)) (c_is_frac : Cb P w K mg base "is_frac" 2 [] (spF K R_isF)) (c__law_is_lowered : Cb P w K mg base "_law_is_lowered" 2 [] (spF K R_low)) (c_floor_of : Cb P w K mg base "floor_of" 1 [] (spF K R_floor))
    (hS : SqL K H a (ns.map V.int)) :
    ∃ t, PSs (cxOf CX0 P w K mg base N_law "law" (defScope s_law) f cdv PySem.callerA [] s H E0).nox (defBody s_law) t ∧ t { nx := fun _ _ => False, rt := fun v _ => v = .bl true } (L2.start N_law [.ref a]) H := by
  refine ⟨_, (pss_cons (ps_for PassesOwn.never rfl (pi_range1 (by rfl) Z.z_range (pa_cons (pe_op (opk_plus (K := K)) (pe_int) (pe_callB (cb_min2 rfl) (by rfl) Z.z_min bt_min (pa_cons (pe_int) (pa_cons (pe_callB (cbk_len (K := K)) (by rfl) Z.z_len bt_len (pa_cons (pv 0) pa_nil)) pa_nil)))) pa_nil)) (pg_name (i := 1) sc_law.nd rfl (Or.inl rfl)) (pss_cons (ps_set (i := 2) sc_law.nd rfl (.inl rfl) (pe_cb c__law_box (hr.mono (by decide)) (by rfl) (pa_cons (pv 0) (pa_cons (pv 1) pa_nil))))
      (pss_one (ps_for PassesOwn.never rfl (pi_range1 (by rfl) Z.z_range (pa_cons (pe_int) pa_nil)) (pg_name (i := 3) sc_law.nd rfl (Or.inl rfl)) (pss_cons (ps_set (i := 4) sc_law.nd rfl (.inl rfl) (pe_op op_minus (pe_cb c__law_take (hr.mono (by decide)) (by rfl) (pa_cons (pv 2) (pa_cons (pe_int) pa_nil))) (pe_int)))
      (pss_cons (ps_set (i := 5) sc_law.nd rfl (.inl rfl) (pe_op op_times (pe_op (opk_plus (K := K)) (pe_int) (pe_cb c__law_take (hr.mono (by decide)) (by rfl) (pa_cons (pv 2) (pa_cons (pe_int) pa_nil)))) (pe_cb c__law_of (hr.mono (by decide)) (by rfl) (pa_cons (pv 2) (pa_cons (pe_lst (pa_cons (pe_int) (pa_cons (pe_un un_negA (pe_int)) pa_nil))) pa_nil)))))
      (pss_cons (ps_set (i := 6) sc_law.nd rfl (.inl rfl) (pe_cb c__law_frac (hr.mono (by decide)) (by rfl) (pa_cons (pv 4) (pa_cons (pv 5) pa_nil))))
      (pss_cons (ps_set (i := 7) sc_law.nd rfl (.inl rfl) (pe_lst (pa_cons (pe_cb c_frac (hr.mono (by decide)) (by rfl) (pa_cons (pv 4) (pa_cons (pv 5) pa_nil))) (pa_cons (pe_ck k_frac (hr.mono (by decide)) (by rfl) (pk_cons (pv 5) (pk_cons (pv 4) pk_nil))) (pa_cons (pe_cb c_fracD1 (hr.mono (by decide)) (by rfl) (pa_cons (pv 4) pa_nil)) pa_nil)))))
      (pss_cons (ps_if (pt_not (pt_val (pe_cb c__law_same (hr.mono (by omega)) (by rfl) (pa_cons (pv 7) (pa_cons (pe_lst (pa_cons (pv 6) (pa_cons (pv 6) (pa_cons (pe_tup (pa_cons (pv 4) (pa_cons (pe_int) pa_nil))) pa_nil)))) pa_nil))))) (pss_one (ps_ret (pe_bl))) pss_nil)
      (pss_cons (ps_set (i := 8) sc_law.nd rfl (.inl rfl) (pe_lst (pa_cons (pv 6) (pa_cons (pe_cb c__law_draw (hr.mono (by decide)) (by rfl) (pa_cons (pv 2) (pa_cons (pe_int) pa_nil))) (pa_cons (pe_cb c__law_draw (hr.mono (by decide)) (by rfl) (pa_cons (pv 2) (pa_cons (pe_int) pa_nil))) pa_nil)))))
      (pss_cons (ps_expr (pe_bm PySem.F.plainAttrs_list PySem.F.slot_list_append PySem.F.type_list_append mt_append (pv 8) (pa_cons (pe_cb c_plus (hr.mono (by decide)) (by rfl) (pa_cons (pe_cb c_times (hr.mono (by decide)) (by rfl) (pa_cons (pe_ix (ixk (K := K)) (pv 8) (pe_int) (fun _ _ => rfl)) (pa_cons (pe_ix (ixk (K := K)) (pv 8) (pe_int) (fun _ _ => rfl)) pa_nil))) (pa_cons (pe_ix (ixk (K := K)) (pv 8) (pe_int) (fun _ _ => rfl)) pa_nil))) pa_nil)))
      (pss_cons (ps_par (i := 9) (j := 10) (by rfl) sc_law.nd rfl rfl (by decide) rfl rfl (pa_cons (pe_cb c__law_of (hr.mono (by decide)) (by rfl) (pa_cons (pv 2) (pa_cons (pv 8) pa_nil))) (pa_cons (pe_cb c__law_of (hr.mono (by decide)) (by rfl) (pa_cons (pv 2) (pa_cons (pv 8) pa_nil))) pa_nil)) (by rfl))
      (pss_cons (ps_if (PW.pt (pw_or (pt_not (pt_val (pe_cb c__law_told_right (hr.mono (by decide)) (by rfl) (pa_cons (pv 9) (pa_cons (pv 10) pa_nil))))) (pw_or1 (pt_not (pt_val (pe_callB (cbk_all (K := K) rfl) (by rfl) Z.z_all bt_all (pa_cons (pe_lc (own := [("_law_here", 17)]) rfl sc_law.nd (pik_list (K := K) (pv 8)) (blkOk_by (own := [("_law_here", 17)]) (N := N_law) (sc := defScope s_law) (by decide +kernel)) (fun _ _ _ _ _ => (pg_name (i := 17) sc_law.nd rfl (Or.inl rfl))) (fun _ _ _ _ _ => pts_nil) (fun _ _ _ _ _ => pe_cb c__law_one_right (hr.mono (by decide)) (by rfl) (pa_cons (pv 17) pa_nil))) pa_nil))))))) (pss_one (ps_ret (pe_bl))) pss_nil)
      (pss_cons (ps_set (i := 11) sc_law.nd rfl (.inl rfl) (pe_cb c__law_take (hr.mono (by decide)) (by rfl) (pa_cons (pv 2) (pa_cons (pe_int) pa_nil))))
      (pss_cons (ps_set (i := 12) sc_law.nd rfl (.inl rfl) (pe_callTy (cbk_list (K := K)) (by rfl) Z.z_list bt_list (pa_cons (pv 9) pa_nil)))
      (pss_cons (ps_set (i := 13) sc_law.nd rfl (.inl rfl) (pe_lst (pa_cons (pe_op (opk_plus (K := K)) (pe_ix (ixk (K := K)) (pv 12) (pv 11) (fun _ _ => rfl)) (pe_int)) (pa_cons (pe_un un_negA (pe_ix (ixk (K := K)) (pv 12) (pv 11) (fun _ _ => rfl))) (pa_cons (pe_op op_times (pe_int) (pe_ix (ixk (K := K)) (pv 12) (pv 11) (fun _ _ => rfl))) (pa_cons (pe_int) (pa_cons (pe_bl) (pa_cons (pe_non) (pa_cons (pe_str) (pa_cons (pe_tup (pa_cons (pe_int) pa_nil)) (pa_cons (pe_lst (pa_cons (pe_int) pa_nil)) (pa_cons (pe_ix (ixk (K := K)) (pv 12) (pe_int) (fun _ _ => rfl)) pa_nil))))))))))))
      (pss_cons (ps_asg (pe_cb c__law_of (hr.mono (by decide)) (by rfl) (pa_cons (pv 2) (pa_cons (pv 13) pa_nil))) (pg_sub (pv 12) (pv 11) set_list))
      (pss_cons (ps_set (i := 14) sc_law.nd rfl (.inl rfl) (pe_lst (pa_cons (pe_callTy (cbk_tup (K := K)) (by rfl) Z.z_tuple bt_tuple (pa_cons (pv 12) pa_nil)) (pa_cons (pv 12) (pa_cons (pe_op (opk_plus (K := K)) (pv 9) (pe_tup (pa_cons (pe_int) pa_nil))) (pa_cons (pe_slice (slk_tup (K := K)) (pv 9) po_none (po_some (pe_int))) (pa_cons (pe_tup (pa_cons (pv 4) (pa_cons (pv 5) pa_nil))) (pa_cons (pe_tup (pa_cons (pe_op op_times (pe_int) (pv 4)) (pa_cons (pe_int) pa_nil))) pa_nil))))))))
      (pss_cons (ps_set (i := 14) sc_law.nd rfl (.inl rfl) (pe_op (opk_plus (K := K)) (pv 14) (pe_lst (pa_cons (pe_non) (pa_cons (pe_int) (pa_cons (pe_bl) (pa_cons (pe_str) (pa_cons (pe_tup pa_nil) pa_nil))))))))
      (pss_one (ps_for PassesOwn.never rfl (pik_list (K := K) (pv 14)) (pg_name (i := 15) sc_law.nd rfl (Or.inl rfl)) (pss_cons (ps_set (i := 16) sc_law.nd rfl (.inl rfl) (pe_callB (cbk_repr (K := K) hgd hr.units) (by rfl) Z.z_repr bt_repr (pa_cons (pv 15) pa_nil)))
      (pss_one (ps_if (PW.pt (pw_or (pt_not (pt_val (pe_cb c__law_same (hr.mono (by omega)) (by rfl) (pa_cons (pe_cb c_is_frac (hr.mono (by decide)) (by rfl) (pa_cons (pv 15) pa_nil)) (pa_cons (pe_cb c__law_is_lowered (hr.mono (by decide)) (by rfl) (pa_cons (pv 15) pa_nil)) pa_nil))))) (pw_or1 (pt_cmpR op_ne (pe_callB (cbk_repr (K := K) hgd hr.units) (by rfl) Z.z_repr bt_repr (pa_cons (pv 15) pa_nil)) (pv 16) (nomark _))))) (pss_one (ps_ret (pe_bl))) pss_nil))))))))))))))))))))))))
      (pss_one (ps_ret (pe_and (pe_cmpR (opk_eq (K := K) hr.units) (pe_cb c_frac (hr.mono (by decide)) (by rfl) (pa_cons (pe_un un_negA (pe_int)) (pa_cons (pe_int) pa_nil))) (pe_tup (pa_cons (pe_un un_negA (pe_int)) (pa_cons (pe_int) pa_nil))) (nomark _)) (pe_and (pe_cmpR (opk_eq (K := K) hr.units) (pe_cb c_floor_of (hr.mono (by decide)) (by rfl) (pa_cons (pe_tup (pa_cons (pe_un un_negA (pe_int)) (pa_cons (pe_int) pa_nil))) pa_nil)) (pe_un un_negA (pe_int)) (nomark _)) (pe_one (pe_cmpR op_is (pe_cb c_is_frac (hr.mono (by decide)) (by rfl) (pa_cons (pe_tup (pa_cons (pe_int) (pa_cons (pe_int) pa_nil))) pa_nil)) (pe_bl) (nomark _)))))))), ?_⟩
  refine w_run so_nil (rxs_scr hS) ?_
  try simp only [nox_K, cx_K, List.map_cons, List.map_nil]
  have hs1 : Sm 20 1 := .of 1 (by decide)
  have h10 : (1 : Int) ≠ 0 := by decide
  walk_at "w"
  refine w_forR (c := 1 + min 7 ns.length) (s1 := []) (ρ := rho0 N_law [.scr ns]) ?_ (by omega) (fun _ ρ s => s = [] ∧ ρ = rho0 N_law [.scr ns]) ⟨rfl, rfl⟩ ?_ ?_
  · with_reducible apply eva_cons
    · refine Ev.is (by walk_at "ev") ?_
      refine congrArg (fun i => Dx.d (.int i)) ?_
      show 1 + (if (ns.length : Int) < 7 then (ns.length : Int) else 7) = ((1 + min 7 ns.length : Nat) : Int)
      split <;> omega
    · exact eva_nil
  · rintro k ρ s2 N hk ⟨rfl, rfl⟩ hN
    walk_at "w"
    refine w_asgN (s1 := []) (ds := bxl (mkB (cell ns k) k)) ?_ ?_
    · with_reducible apply evn_call
      · walk_at "ea"
      · exact .mk (by omega)
    have hB : Bk 0 (mkB (cell ns k) k) := bk_mk
    generalize mkB (cell ns k) k = b0 at *
    dsimp only
    refine w_forR (c := 4) (s1 := [bxl b0]) ?_ (by decide) (fun i ρ s => ∃ b, Bk (20 * i) b ∧ s = [bxl b] ∧ ρ = rc ns k) ?_ ?_ ?_
    · exact eva_cons ev_int eva_nil
    · exact ⟨b0, hB, rfl, rfl⟩
    · rintro i ρ s2 N2 hi ⟨b, hc, rfl, rfl⟩ hN2
      have hcc : 20 * i ≤ 100 := by omega
      generalize hcg : 20 * i = c at hc hcc
      -- upper
      have x1 := tk_r (b := b) (n := 199) (by decide)
      have k1 := hc.next (n := 199)
      iterate 2 (walk_at "w")
      refine w_at (s' := [bxl (tkB b 199)]) ?_
      generalize tkB b 199 = b1 at *
      generalize tkR b 199 = t1 at *
      -- under
      have x2 := tk_r (b := b1) (n := 99) (by decide)
      have k2 := k1.next (n := 99)
      obtain ⟨e, he, he'⟩ : ∃ e : Int, ([.int 1, .int (-1)] : List PyData)[(tkR (tkB b1 99) ((2 : Nat) : Int)).toNat]? = some (.int e) ∧ (e = 1 ∨ e = -1) := by
        obtain ⟨d, h1, h2⟩ := pick (ds := [.int 1, .int (-1)]) (b := tkB b1 99) (by decide)
        simp at h2
        rcases h2 with h2 | h2
        · subst h2; exact ⟨1, h1, .inl rfl⟩
        · subst h2; exact ⟨-1, h1, .inr rfl⟩
      have k3 := k2.next (n := ((2 : Nat) : Int))
      walk_at "w"
      dsimp only
      refine w_asg (x := .d (.int ((1 + tkR b1 99) * e))) (s1 := [bxl (tkB (tkB b1 99) ((2 : Nat) : Int))]) ?_ ?_
      · with_reducible apply ev_op
        · walk_at "ev"
        · with_reducible apply ev_call
          · walk_at "ea"
          · exact R_of.mk rfl (by decide) (by decide) k2 (by omega) he
        · exact o_mul (cm_l (by omega) (by omega))
      generalize tkB (tkB b1 99) ((2 : Nat) : Int) = b3 at *
      obtain ⟨v, hv, hv0, hvs⟩ : ∃ v, (1 + tkR b1 99) * e = v ∧ v ≠ 0 ∧ Sm 20 v := by
        refine ⟨_, rfl, ?_, ?_⟩
        · rcases he' with h | h <;> (subst h; omega)
        · refine .of 99 ?_
          rcases he' with h | h <;> (subst h; omega)
      rw [hv]
      obtain ⟨u, hu, hus⟩ : ∃ u, t1 - 99 = u ∧ Sm 20 u := ⟨_, rfl, .of 99 (by omega)⟩
      rw [hu]
      -- due, told
      dsimp only
      walk_at "w"
      walk_at "w"
      walk_at "w"
      refine w_asg (x := .d (.list [lw u v, lw u v, q2 u 1])) (s1 := [bxl b3]) ?_ ?_
      · refine Ev.is (x := .d (.list [lw u v, lw u v, lw u 1])) (by walk_at "ev") ?_
        rw [lw1]
      dsimp only
      walk_at "w"
      with_reducible apply w_if (b := false) (s1 := [bxl b3])
      · refine EvT.is (b := !true) ?_ rfl
        with_reducible apply et_not
        with_reducible apply et_B
        with_reducible apply ev_call
        · walk_at "ea"
        · exact R_same.mk (n := 5) (d := .list [lw u v, lw u v, q2 u 1]) rfl (Nat.le_of_ble_eq_true rfl) (Nat.le_of_ble_eq_true rfl) (by decide)
      · intro c1
        cases c1
      intro _
      dsimp only
      iterate 2 (walk_at "w")
      -- some
      have k4 := k3.draw (n := 99)
      have d1 := drN_le (b := b3) (n := 99) (by decide)
      have d2 := drD_le (b := b3) (n := 99)
      have k5 := k4.draw (n := 3)
      have d3 := drN_le (b := drB b3 99) (n := 3) (by decide)
      have d4 := drD_le (b := drB b3 99) (n := 3)
      have f0 := fq_lw (n := 20) (m := 20) (k := 20) hv0 hus hvs
      with_reducible apply w_asgN (ds := [lw u v, lw (drN b3 99) (drD b3 99), lw (drN (drB b3 99) 3) (drD (drB b3 99) 3)])
      · walk_at "evn"
      refine w_at (s' := [bxl (drB (drB b3 99) 3), [lw u v, lw (drN b3 99) (drD b3 99), lw (drN (drB b3 99) 3) (drD (drB b3 99) 3)]]) ?_
      have f1 := fq_lw (n := 20) (m := 20) (k := 20) (u := drN b3 99) (v := drD b3 99) (by omega) (.of 99 (by omega)) (.of 4 (by omega))
      have f2 := fq_lw (n := 20) (m := 20) (k := 20) (u := drN (drB b3 99) 3) (v := drD (drB b3 99) 3) (by omega) (.of 99 (by omega)) (.of 4 (by omega))
      generalize lw (drN b3 99) (drD b3 99) = F1 at *
      generalize lw (drN (drB b3 99) 3) (drD (drB b3 99) 3) = F2 at *
      generalize lw u v = F0 at *
      generalize drB (drB b3 99) 3 = b5 at *
      clear d1 d2 d3 d4 k4
      have g0 := f0.mono (m := 100)
      have g1 := f1.mono (m := 100)
      have g2 := f2.mono (m := 100)
      obtain ⟨a0, c0, rfl, n0, p0, m0, l0⟩ := f0.ex
      obtain ⟨a1, c1, rfl, n1, p1, m1, l1⟩ := f1.ex
      obtain ⟨a2, c2, rfl, n2, p2, m2, l2⟩ := f2.ex
      have P0 : Sm 1000 a0 := p0.mono
      have M0 : Sm 1000 c0 := m0.mono
      have P1 : Sm 1000 a1 := p1.mono
      have M1 : Sm 1000 c1 := m1.mono
      have P2 : Sm 1000 a2 := p2.mono
      have M2 : Sm 1000 c2 := m2.mono
      have z1 := p0.mul p1
      have z2 := m0.mul m1
      have z3 : c0 * c1 ≠ 0 := Int.mul_ne_zero n0 n1
      have y1 : Sm 40 (lwN (a0 * a1) (c0 * c1)) := z1.le (lwN_le z3)
      have y2 : Sm 40 (lwD (a0 * a1) (c0 * c1)) := z2.le (lwD_le z3)
      have y3 : lwD (a0 * a1) (c0 * c1) ≠ 0 := by
        have := lwD_pos (u := a0 * a1) z3
        omega
      have Y1 : Sm 1000 (lwN (a0 * a1) (c0 * c1)) := y1.mono
      have Y2 : Sm 1000 (lwD (a0 * a1) (c0 * c1)) := y2.mono
      have g3 : Fq 100 (lw (lwN (a0 * a1) (c0 * c1) * c2 + a2 * lwD (a0 * a1) (c0 * c1)) (lwD (a0 * a1) (c0 * c1) * c2)) :=
        fq_lw (n := 61) (m := 60) (Int.mul_ne_zero y3 n2) ((y1.mul m2).add ((p2.mul y2).mono (m := 60))) (y2.mul m2)
      dsimp only
      walk_at "w"
      refine w_app (l := 1) (s1 := [bxl b5, [q2 a0 c0, q2 a1 c1, q2 a2 c2]]) (ds := [q2 a0 c0, q2 a1 c1, q2 a2 c2]) (d := lw (lwN (a0 * a1) (c0 * c1) * c2 + a2 * lwD (a0 * a1) (c0 * c1)) (lwD (a0 * a1) (c0 * c1) * c2)) (ev_var rfl) ?_ rfl (Nat.le_of_ble_eq_true rfl) ?_ ⟨_, rfl⟩
      · walk_at "ea"
      generalize lw (lwN (a0 * a1) (c0 * c1) * c2 + a2 * lwD (a0 * a1) (c0 * c1)) (lwD (a0 * a1) (c0 * c1) * c2) = F3 at *
      generalize q2 a0 c0 = F0 at *
      generalize q2 a1 c1 = F1 at *
      generalize q2 a2 c2 = F2 at *
      refine w_at (s' := [bxl b5] ++ [[F0, F1, F2, F3]]) ?_
      refine w_freeze (n := 8) rfl ?_ (Nat.zero_le _) ⟨Nat.zero_ne_one, trivial⟩
      -- first, second
      have hall : ∀ d ∈ [F0, F1, F2, F3], Fq 100 d := by
        intro d hd
        simp at hd
        rcases hd with rfl | rfl | rfl | rfl <;> assumption
      obtain ⟨D1, hD1, hm1⟩ := pick (ds := [F0, F1, F2, F3]) (b := b5) (by show 0 < 4; decide)
      obtain ⟨D2, hD2, hm2⟩ := pick (ds := [F0, F1, F2, F3]) (b := tkB b5 (([F0, F1, F2, F3].length : Nat) : Int)) (by show 0 < 4; decide)
      have k6 := k5.next (n := (([F0, F1, F2, F3].length : Nat) : Int))
      have k7 := k6.next (n := (([F0, F1, F2, F3].length : Nat) : Int))
      obtain ⟨pa, pb, rfl, w0, w1, w2, w3⟩ := (hall D1 hm1).ex
      obtain ⟨qa, qb, rfl, v0, v1, v2, v3⟩ := (hall D2 hm2).ex
      dsimp only
      walk_at "w"
      with_reducible apply w_par
      · with_reducible apply eva_cons
        · with_reducible apply ev_call
          · walk_at "ea"
          · exact R_of.mk rfl (by show 0 < 4; decide) (Nat.le_of_ble_eq_true rfl) k5 (by omega) hD1
        · with_reducible apply eva_cons
          · with_reducible apply ev_call
            · walk_at "ea"
            · exact R_of.mk rfl (by show 0 < 4; decide) (Nat.le_of_ble_eq_true rfl) k6 (by omega) hD2
          · exact eva_nil
      refine w_at (s' := [bxl (tkB (tkB b5 (([F0, F1, F2, F3].length : Nat) : Int)) (([F0, F1, F2, F3].length : Nat) : Int))]) ?_
      generalize tkB (tkB b5 (([F0, F1, F2, F3].length : Nat) : Int)) (([F0, F1, F2, F3].length : Nat) : Int) = b7 at *
      clear hD1 hD2 hm1 hm2
      -- told right, each right
      dsimp only
      walk_at "w"
      with_reducible apply w_if (b := false) (s1 := [bxl b7])
      · refine EvT.is (b := !true || !(([F0, F1, F2, F3].map fun _ => true).all id)) ?_ rfl
        with_reducible apply et_or
        · with_reducible apply et_not
          with_reducible apply et_B
          with_reducible apply ev_call
          · walk_at "ea"
          · exact R_told.mk w0 v0 w1.mono w2.mono v1.mono v2.mono
        · intro _
          with_reducible apply et_not
          with_reducible apply et_B
          with_reducible apply ev_cb
          · with_reducible apply eva_cons
            · with_reducible apply ev_new
              refine evn_lcL (S := fun _ => [bxl b7]) (ds := [F0, F1, F2, F3]) (es := ([F0, F1, F2, F3].map fun _ => true).map PyData.bool) (ev_var rfl) rfl (Nat.le_of_ble_eq_true rfl) ?_
              intro i d e hd he
              rw [List.map_map, List.getElem?_map, hd] at he
              cases he
              obtain ⟨ea, eb, rfl, u0, u1, u2, u3⟩ := (hall d (List.mem_of_getElem? hd)).ex
              with_reducible apply ev_call
              · walk_at "ea"
              · exact R_one.mk u0 u2.mono u3
            · exact eva_nil
          · exact o_all
        · intro c1
          cases c1
      · intro c1
        cases c1
      intro _
      dsimp only
      iterate 2 (walk_at "w")
      clear hall g0 g1 g2 g3
      -- at
      have x8 := tk_r (b := b7) (n := 2) (by decide)
      have k8 := k7.next (n := 2)
      walk_at "w"
      refine w_at (s' := [bxl (tkB b7 2)]) ?_
      generalize tkB b7 2 = b8 at *
      generalize tkR b7 2 = t8 at *
      -- bent
      dsimp only
      walk_at "w"
      with_reducible apply w_asgN
      · walk_at "evn"
      obtain ⟨tn, z, hix, hat, hz, htn⟩ : ∃ (tn : Nat) (z : Int), ixN 2 t8 = some tn ∧ atI [PyData.int pa, .int pb] t8 = some (.int z) ∧ (z = pa ∨ z = pb) ∧ (tn = 0 ∨ tn = 1) := by
        have : t8 = 0 ∨ t8 = 1 := by omega
        rcases this with h | h <;> subst h
        · exact ⟨0, pa, rfl, rfl, .inl rfl, .inl rfl⟩
        · exact ⟨1, pb, rfl, rfl, .inr rfl, .inr rfl⟩
      have hzs : Sm 100 z := by rcases hz with h | h <;> (subst h; assumption)
      have hcz : CM 2 z := cm_l (by decide) (by decide)
      refine w_at (s' := [bxl b8, [.int pa, .int pb]]) ?_
      -- own
      dsimp only
      walk_at "w"
      refine w_asg (x := .d (.list [.int (z + 1), .int (-z), .int (2 * z), .int 0, .bool true, .none, .str "1", .tuple [.int 1], .list [.int 1], .int pa])) (s1 := [bxl b8, [.int pa, .int pb]]) (by walk_at "ev") ?_
      have hown : ∀ d ∈ [PyData.int (z + 1), .int (-z), .int (2 * z), .int 0, .bool true, .none, .str "1", .tuple [.int 1], .list [.int 1], .int pa], Lf d := by
        intro d hd
        simp only [List.mem_cons, List.not_mem_nil, or_false] at hd
        rcases hd with rfl | rfl | rfl | rfl | rfl | rfl | rfl | rfl | rfl | rfl
        · exact lf_int ((hzs.add (hs1.mono (m := 100))).mono (m := 1000))
        · exact lf_int (hzs.neg.mono (m := 1000))
        · exact lf_int (((Sm.of (n := 20) (i := 2) 2 (by decide)).mul hzs).mono (m := 1000))
        · exact lf_int ((Sm.of (n := 20) (i := 0) 0 (by decide)).mono (m := 1000))
        · exact lf_bool
        · exact lf_none
        · exact lf_s1
        · exact lf_t1
        · exact lf_l1
        · exact lf_int (w1.mono (m := 1000))
      obtain ⟨E, hE, hEm⟩ := pick (ds := [PyData.int (z + 1), .int (-z), .int (2 * z), .int 0, .bool true, .none, .str "1", .tuple [.int 1], .list [.int 1], .int pa]) (b := b8) (by show 0 < 10; decide)
      have hLE := hown E hEm
      have k9 := k8.next (n := ((10 : Nat) : Int))
      -- bent[at] = of(box, own)
      dsimp only
      walk_at "w"
      obtain ⟨xx, yy, hxy, hLx, hLy⟩ : ∃ xx yy, ([PyData.int pa, .int pb]).set tn E = [xx, yy] ∧ Lf xx ∧ Lf yy := by
        rcases htn with h | h <;> subst h
        · exact ⟨E, .int pb, rfl, hLE, lf_int (w2.mono (m := 1000))⟩
        · exact ⟨.int pa, E, rfl, lf_int (w1.mono (m := 1000)), hLE⟩
      refine w_setI (l := 1) (s1 := [bxl (tkB b8 ((10 : Nat) : Int)), [.int pa, .int pb]]) (d := E) (ds := [.int pa, .int pb]) (j := t8) (jn := tn) ?_ (ev_var rfl) (ev_var rfl) rfl hix ?_
      · with_reducible apply ev_call
        · walk_at "ea"
        · exact R_of.mk rfl (by show 0 < 10; decide) (Nat.le_of_ble_eq_true rfl) k8 (by omega) hE
      rw [hxy]
      generalize tkB b8 ((10 : Nat) : Int) = b9 at *
      clear hE hEm hown
      refine w_at (s' := [bxl b9] ++ [[xx, yy]]) ?_
      refine w_freeze (n := 12) rfl ?_ (Nat.zero_le _) ⟨Nat.zero_ne_one, trivial⟩
      -- things
      have hcu : CM 2 u := cm_l (by decide) (by decide)
      dsimp only
      walk_at "w"
      refine w_asg (x := .d (.list [.tuple [xx, yy], .list [xx, yy], .tuple [.int pa, .int pb, .int 1], .tuple [.int pa], q2 u v, q2 (2 * u) 2])) (s1 := [bxl b9]) ?_ ?_
      · with_reducible apply ev_new
        with_reducible apply evn_lstU
        · with_reducible apply eva_cons
          · with_reducible apply ev_cb
            · walk_at "ea"
            · exact o_tupL
          · walk_at "ea"
        · exact .cons (.cons (.cons (.cons (.cons (.cons .nil)))))
        · exact Nat.le_of_ble_eq_true rfl
      dsimp only
      walk_at "w"
      refine w_asg (x := .d (.list [.tuple [xx, yy], .list [xx, yy], .tuple [.int pa, .int pb, .int 1], .tuple [.int pa], q2 u v, q2 (2 * u) 2, .none, .int 0, .bool true, .str "1/2", .tuple []])) (s1 := [bxl b9]) ?_ ?_
      · refine Ev.is (by walk_at "ev") ?_
        rfl
      have hth : ∀ d ∈ [PyData.tuple [xx, yy], .list [xx, yy], .tuple [.int pa, .int pb, .int 1], .tuple [.int pa], q2 u v, q2 (2 * u) 2, .none, .int 0, .bool true, .str "1/2", .tuple []], Th d := by
        have lp := lf_int (w1.mono (m := 1000))
        have lq := lf_int (w2.mono (m := 1000))
        have lu := lf_int (hus.mono (m := 1000))
        have lv := lf_int (hvs.mono (m := 1000))
        have l1 := lf_int (hs1.mono (m := 1000))
        have l2 : Lf (.int 2) := lf_int ((Sm.of (n := 20) (i := 2) 2 (by decide)).mono (m := 1000))
        have lz : Lf (.int 0) := lf_int ((Sm.of (n := 20) (i := 0) 0 (by decide)).mono (m := 1000))
        have lw2 : Lf (.int (2 * u)) := lf_int (((Sm.of (n := 20) (i := 2) 2 (by decide)).mul hus).mono (m := 1000))
        intro d hd
        simp only [List.mem_cons, List.not_mem_nil, or_false] at hd
        rcases hd with rfl | rfl | rfl | rfl | rfl | rfl | rfl | rfl | rfl | rfl | rfl
        · exact th_tup (by simp; exact ⟨hLx, hLy⟩) (Nat.le_of_ble_eq_true rfl)
        · exact th_lst (by simp; exact ⟨hLx, hLy⟩) (Nat.le_of_ble_eq_true rfl)
        · exact th_tup (by simp; exact ⟨lp, lq, l1⟩) (Nat.le_of_ble_eq_true rfl)
        · exact th_tup (by simp; exact lp) (Nat.le_of_ble_eq_true rfl)
        · exact th_tup (by simp; exact ⟨lu, lv⟩) (Nat.le_of_ble_eq_true rfl)
        · exact th_tup (by simp; exact ⟨lw2, l2⟩) (Nat.le_of_ble_eq_true rfl)
        · exact th_lf lf_none (by simp)
        · exact th_lf lz (by simp)
        · exact th_lf lf_bool (by simp)
        · exact th_s
        · exact th_tup (by simp) (Nat.le_of_ble_eq_true rfl)
      dsimp only
      refine w_forL (ds := [.tuple [xx, yy], .list [xx, yy], .tuple [.int pa, .int pb, .int 1], .tuple [.int pa], q2 u v, q2 (2 * u) 2, .none, .int 0, .bool true, .str "1/2", .tuple []]) (s1 := [bxl b9]) (ev_var rfl) (fun _ ρ s => s = [bxl b9] ∧ Lq (rc ns k) ρ) ⟨rfl, ?_⟩ ?_ ?_
      · exact .same (.same (.same (.none (.none (.none (.none (.none (.none (.none (.none (.none (.none (.none (.none (.none (.none (.none .nil)))))))))))))))))
      · rintro lv j d ρ s3 N3 hd ⟨rfl, hq⟩ hN3
        obtain ⟨th1, th2, th3, th4, th5⟩ := hth d (List.mem_of_getElem? hd)
        refine w_wk (hq.set 15 _) ?_
        iterate 2 (walk_at "w")
        dsimp only
        with_reducible apply w_if (b := false) (s1 := [bxl b9])
        · refine EvT.is (b := !true || !decide (V.str d.shown = V.str d.shown)) ?_ (by simp)
          with_reducible apply et_or
          · with_reducible apply et_not
            with_reducible apply et_B
            with_reducible apply ev_call
            · with_reducible apply eva_cons
              · walk_at "ev"
              · with_reducible apply eva_cons
                · with_reducible apply ev_call
                  · walk_at "ea"
                  · exact R_low.mk th5
                · exact eva_nil
            · exact R_same.mk (n := 5) rfl (Nat.le_of_ble_eq_true rfl) (Nat.le_of_ble_eq_true rfl) (by decide)
          · intro _
            walk_at "et"
          · intro c1
            cases c1
        · intro c1
          cases c1
        intro _
        walk_at "w"
        refine hN3 _ _ ⟨rfl, ?_⟩
        exact .same (.same (.same (.none (.none (.none (.none (.none (.none (.none (.none (.none (.none (.none (.none (.none (.none (.none .nil)))))))))))))))))
      · rintro ρ s3 ⟨rfl, hq⟩
        refine w_wk hq ?_
        refine hN2 _ _ ⟨b9, ?_, rfl, rfl⟩
        exact k9.mono (by omega)
    · rintro ρ s2 ⟨b, hb, rfl, rfl⟩
      refine w_cut (s := []) (ρ' := rho0 N_law [.scr ns]) (hN _ _ ⟨rfl, rfl⟩) (Nat.zero_le _) trivial rfl ?_
      intro i x e
      refine Lq.at_ (l := rho0 N_law [.scr ns]) ?_ i x e
      exact .same (.none (.none (.none (.none (.none (.none (.none (.none (.none (.none (.none (.none (.none (.none (.none (.none (.none .nil)))))))))))))))))
  · rintro ρ s2 ⟨rfl, rfl⟩
    have z1 : Sm 20 (-6) := .of 6 (by decide)
    have z2 : Sm 20 4 := .of 4 (by decide)
    have z3 : (4 : Int) ≠ 0 := by decide
    have z4 : Sm 8000 3 := (Sm.of (n := 20) (i := 3) 3 (by decide)).mono
    have z5 : (3 : Int) ≠ 0 := by decide
    dsimp only
    refine w_ret (x := .d (.bool true)) (s1 := []) ?_ okr_true
    refine Ev.is (x := .d (.bool (PyData.eqv (lw (-6) 4) (q2 (-3) 2) && (PyData.eqv (.int ((-1 : Int).fdiv 3)) (.int (-1)) && decide (isF (q2 0 2) = false))))) ?_ (congrArg (fun b => Dx.d (.bool b)) (by decide +kernel))
    with_reducible apply ev_andV
    · walk_at "ev"
    · intro _
      with_reducible apply ev_andV
      · with_reducible apply ev_op
        · with_reducible apply ev_call
          · walk_at "ea"
          · exact R_floor.mk z5 z4
        · walk_at "ev"
        · walk_at "op"
      · intro _
        walk_at "ev"
      · intro _
        rfl
    · intro _
      rfl
end
end K01
namespace K01
open PySem L2 Pw
/-! ### the law's end -/
abbrev PL : PySem.W.OpenLaw := PySem.Challenge.rw_pegwishes_k01_fractions_reckoned
theorem all_mk {w : World} {K : PySem.W.Frag} {h : Heap} {mg : Str → Option Value} {fa : Addr} (X : K.In h) (G : h.Ns mainGlobals mg) (hfa : mg "law" = some (.ref fa))
    {f_is_number : Addr} {od_is_number an_is_number : Option Addr} {sl_is_number : Array (Option Value)} {oc_is_number kV_is_number dc_is_number pm_is_number cd_is_number ct_is_number : Value}
    {f_is_frac : Addr} {od_is_frac an_is_frac : Option Addr} {sl_is_frac : Array (Option Value)} {oc_is_frac kV_is_frac dc_is_frac pm_is_frac cd_is_frac ct_is_frac : Value}
    {f_frac : Addr} {od_frac an_frac : Option Addr} {sl_frac : Array (Option Value)} {oc_frac kV_frac dc_frac pm_frac cd_frac ct_frac : Value}
    {T_frac : Addr} {oT_frac : Value} {dT_frac : Option Addr} {nT_frac : Nat} {slT_frac : Array (Option Value)} {tk_frac : Tok}
    {f_plus : Addr} {od_plus an_plus : Option Addr} {sl_plus : Array (Option Value)} {oc_plus kV_plus dc_plus pm_plus cd_plus ct_plus : Value}
    {f_minus : Addr} {od_minus an_minus : Option Addr} {sl_minus : Array (Option Value)} {oc_minus kV_minus dc_minus pm_minus cd_minus ct_minus : Value}
    {f_times : Addr} {od_times an_times : Option Addr} {sl_times : Array (Option Value)} {oc_times kV_times dc_times pm_times cd_times ct_times : Value}
    {f_over : Addr} {od_over an_over : Option Addr} {sl_over : Array (Option Value)} {oc_over kV_over dc_over pm_over cd_over ct_over : Value}
    {f_sign_of : Addr} {od_sign_of an_sign_of : Option Addr} {sl_sign_of : Array (Option Value)} {oc_sign_of kV_sign_of dc_sign_of pm_sign_of cd_sign_of ct_sign_of : Value}
    {f_floor_of : Addr} {od_floor_of an_floor_of : Option Addr} {sl_floor_of : Array (Option Value)} {oc_floor_of kV_floor_of dc_floor_of pm_floor_of cd_floor_of ct_floor_of : Value}
    {f__law_cell_at : Addr} {od__law_cell_at an__law_cell_at : Option Addr} {sl__law_cell_at : Array (Option Value)} {oc__law_cell_at kV__law_cell_at dc__law_cell_at pm__law_cell_at cd__law_cell_at ct__law_cell_at : Value}
    {f__law_box : Addr} {od__law_box an__law_box : Option Addr} {sl__law_box : Array (Option Value)} {oc__law_box kV__law_box dc__law_box pm__law_box cd__law_box ct__law_box : Value}
    {f__law_take : Addr} {od__law_take an__law_take : Option Addr} {sl__law_take : Array (Option Value)} {oc__law_take kV__law_take dc__law_take pm__law_take cd__law_take ct__law_take : Value}
    {f__law_same : Addr} {od__law_same an__law_same : Option Addr} {sl__law_same : Array (Option Value)} {oc__law_same kV__law_same dc__law_same pm__law_same cd__law_same ct__law_same : Value}
    {f__law_of : Addr} {od__law_of an__law_of : Option Addr} {sl__law_of : Array (Option Value)} {oc__law_of kV__law_of dc__law_of pm__law_of cd__law_of ct__law_of : Value}
    {f__law_frac : Addr} {od__law_frac an__law_frac : Option Addr} {sl__law_frac : Array (Option Value)} {oc__law_frac kV__law_frac dc__law_frac pm__law_frac cd__law_frac ct__law_frac : Value}
    {f__law_plus : Addr} {od__law_plus an__law_plus : Option Addr} {sl__law_plus : Array (Option Value)} {oc__law_plus kV__law_plus dc__law_plus pm__law_plus cd__law_plus ct__law_plus : Value}
    {f__law_less : Addr} {od__law_less an__law_less : Option Addr} {sl__law_less : Array (Option Value)} {oc__law_less kV__law_less dc__law_less pm__law_less cd__law_less ct__law_less : Value}
    {f__law_times : Addr} {od__law_times an__law_times : Option Addr} {sl__law_times : Array (Option Value)} {oc__law_times kV__law_times dc__law_times pm__law_times cd__law_times ct__law_times : Value}
    {f__law_over : Addr} {od__law_over an__law_over : Option Addr} {sl__law_over : Array (Option Value)} {oc__law_over kV__law_over dc__law_over pm__law_over cd__law_over ct__law_over : Value}
    {f__law_draw : Addr} {od__law_draw an__law_draw : Option Addr} {sl__law_draw : Array (Option Value)} {oc__law_draw kV__law_draw dc__law_draw pm__law_draw cd__law_draw ct__law_draw : Value}
    {f__law_is_lowered : Addr} {od__law_is_lowered an__law_is_lowered : Option Addr} {sl__law_is_lowered : Array (Option Value)} {oc__law_is_lowered kV__law_is_lowered dc__law_is_lowered pm__law_is_lowered cd__law_is_lowered ct__law_is_lowered : Value}
    {f__law_told_right : Addr} {od__law_told_right an__law_told_right : Option Addr} {sl__law_told_right : Array (Option Value)} {oc__law_told_right kV__law_told_right dc__law_told_right pm__law_told_right cd__law_told_right ct__law_told_right : Value}
    {f__law_one_right : Addr} {od__law_one_right an__law_one_right : Option Addr} {sl__law_one_right : Array (Option Value)} {oc__law_one_right kV__law_one_right dc__law_one_right pm__law_one_right cd__law_one_right ct__law_one_right : Value}
    {f_law : Addr} {od_law an_law : Option Addr} {sl_law : Array (Option Value)} {oc_law kV_law dc_law pm_law cd_law ct_law : Value}
    (a_is_number : PySem.W.nsIn K mainGlobals "is_number" = some (some (.ref f_is_number)))
    (l_is_number : K.lookup f_is_number = some ⟨oc_is_number, od_is_number, .func (PySem.W.fnOf "is_number" "is_number" (defArgs s_is_number) (defBody s_is_number) (defScope s_is_number) .none kV_is_number dc_is_number pm_is_number an_is_number cd_is_number ct_is_number), sl_is_number⟩)
    (c_is_number : PySem.W.codeIn K cd_is_number "is_number" = true)
    (k_is_number : PySem.W.keepIn K (.ref f_is_number) = true)
    (a_is_frac : PySem.W.nsIn K mainGlobals "is_frac" = some (some (.ref f_is_frac)))
    (l_is_frac : K.lookup f_is_frac = some ⟨oc_is_frac, od_is_frac, .func (PySem.W.fnOf "is_frac" "is_frac" (defArgs s_is_frac) (defBody s_is_frac) (defScope s_is_frac) .none kV_is_frac dc_is_frac pm_is_frac an_is_frac cd_is_frac ct_is_frac), sl_is_frac⟩)
    (c_is_frac : PySem.W.codeIn K cd_is_frac "is_frac" = true)
    (k_is_frac : PySem.W.keepIn K (.ref f_is_frac) = true)
    (a_frac : PySem.W.nsIn K mainGlobals "frac" = some (some (.ref f_frac)))
    (l_frac : K.lookup f_frac = some ⟨oc_frac, od_frac, .func (PySem.W.fnOf "frac" "frac" (defArgs s_frac) (defBody s_frac) (defScope s_frac) (.ref T_frac) kV_frac dc_frac pm_frac an_frac cd_frac ct_frac), sl_frac⟩)
    (c_frac : PySem.W.codeIn K cd_frac "frac" = true)
    (k_frac : PySem.W.keepIn K (.ref f_frac) = true)
    (t_frac : K.lookup T_frac = some ⟨oT_frac, dT_frac, .seq #[.int 1 tk_frac] nT_frac, slT_frac⟩)
    (a_plus : PySem.W.nsIn K mainGlobals "plus" = some (some (.ref f_plus)))
    (l_plus : K.lookup f_plus = some ⟨oc_plus, od_plus, .func (PySem.W.fnOf "plus" "plus" (defArgs s_plus) (defBody s_plus) (defScope s_plus) .none kV_plus dc_plus pm_plus an_plus cd_plus ct_plus), sl_plus⟩)
    (c_plus : PySem.W.codeIn K cd_plus "plus" = true)
    (k_plus : PySem.W.keepIn K (.ref f_plus) = true)
    (a_minus : PySem.W.nsIn K mainGlobals "minus" = some (some (.ref f_minus)))
    (l_minus : K.lookup f_minus = some ⟨oc_minus, od_minus, .func (PySem.W.fnOf "minus" "minus" (defArgs s_minus) (defBody s_minus) (defScope s_minus) .none kV_minus dc_minus pm_minus an_minus cd_minus ct_minus), sl_minus⟩)
    (c_minus : PySem.W.codeIn K cd_minus "minus" = true)
    (k_minus : PySem.W.keepIn K (.ref f_minus) = true)
    (a_times : PySem.W.nsIn K mainGlobals "times" = some (some (.ref f_times)))
    (l_times : K.lookup f_times = some ⟨oc_times, od_times, .func (PySem.W.fnOf "times" "times" (defArgs s_times) (defBody s_times) (defScope s_times) .none kV_times dc_times pm_times an_times cd_times ct_times), sl_times⟩)
    (c_times : PySem.W.codeIn K cd_times "times" = true)
    (k_times : PySem.W.keepIn K (.ref f_times) = true)
    (a_over : PySem.W.nsIn K mainGlobals "over" = some (some (.ref f_over)))
    (l_over : K.lookup f_over = some ⟨oc_over, od_over, .func (PySem.W.fnOf "over" "over" (defArgs s_over) (defBody s_over) (defScope s_over) .none kV_over dc_over pm_over an_over cd_over ct_over), sl_over⟩)
    (c_over : PySem.W.codeIn K cd_over "over" = true)
    (k_over : PySem.W.keepIn K (.ref f_over) = true)
    (a_sign_of : PySem.W.nsIn K mainGlobals "sign_of" = some (some (.ref f_sign_of)))
    (l_sign_of : K.lookup f_sign_of = some ⟨oc_sign_of, od_sign_of, .func (PySem.W.fnOf "sign_of" "sign_of" (defArgs s_sign_of) (defBody s_sign_of) (defScope s_sign_of) .none kV_sign_of dc_sign_of pm_sign_of an_sign_of cd_sign_of ct_sign_of), sl_sign_of⟩)
    (c_sign_of : PySem.W.codeIn K cd_sign_of "sign_of" = true)
    (k_sign_of : PySem.W.keepIn K (.ref f_sign_of) = true)
    (a_floor_of : PySem.W.nsIn K mainGlobals "floor_of" = some (some (.ref f_floor_of)))
    (l_floor_of : K.lookup f_floor_of = some ⟨oc_floor_of, od_floor_of, .func (PySem.W.fnOf "floor_of" "floor_of" (defArgs s_floor_of) (defBody s_floor_of) (defScope s_floor_of) .none kV_floor_of dc_floor_of pm_floor_of an_floor_of cd_floor_of ct_floor_of), sl_floor_of⟩)
    (c_floor_of : PySem.W.codeIn K cd_floor_of "floor_of" = true)
    (k_floor_of : PySem.W.keepIn K (.ref f_floor_of) = true)
    (a__law_cell_at : PySem.W.nsIn K mainGlobals "_law_cell_at" = some (some (.ref f__law_cell_at)))
    (l__law_cell_at : K.lookup f__law_cell_at = some ⟨oc__law_cell_at, od__law_cell_at, .func (PySem.W.fnOf "_law_cell_at" "_law_cell_at" (defArgs s__law_cell_at) (defBody s__law_cell_at) (defScope s__law_cell_at) .none kV__law_cell_at dc__law_cell_at pm__law_cell_at an__law_cell_at cd__law_cell_at ct__law_cell_at), sl__law_cell_at⟩)
    (c__law_cell_at : PySem.W.codeIn K cd__law_cell_at "_law_cell_at" = true)
    (k__law_cell_at : PySem.W.keepIn K (.ref f__law_cell_at) = true)
    (a__law_box : PySem.W.nsIn K mainGlobals "_law_box" = some (some (.ref f__law_box)))
    (l__law_box : K.lookup f__law_box = some ⟨oc__law_box, od__law_box, .func (PySem.W.fnOf "_law_box" "_law_box" (defArgs s__law_box) (defBody s__law_box) (defScope s__law_box) .none kV__law_box dc__law_box pm__law_box an__law_box cd__law_box ct__law_box), sl__law_box⟩)
    (c__law_box : PySem.W.codeIn K cd__law_box "_law_box" = true)
    (k__law_box : PySem.W.keepIn K (.ref f__law_box) = true)
    (a__law_take : PySem.W.nsIn K mainGlobals "_law_take" = some (some (.ref f__law_take)))
    (l__law_take : K.lookup f__law_take = some ⟨oc__law_take, od__law_take, .func (PySem.W.fnOf "_law_take" "_law_take" (defArgs s__law_take) (defBody s__law_take) (defScope s__law_take) .none kV__law_take dc__law_take pm__law_take an__law_take cd__law_take ct__law_take), sl__law_take⟩)
    (c__law_take : PySem.W.codeIn K cd__law_take "_law_take" = true)
    (k__law_take : PySem.W.keepIn K (.ref f__law_take) = true)
    (a__law_same : PySem.W.nsIn K mainGlobals "_law_same" = some (some (.ref f__law_same)))
    (l__law_same : K.lookup f__law_same = some ⟨oc__law_same, od__law_same, .func (PySem.W.fnOf "_law_same" "_law_same" (defArgs s__law_same) (defBody s__law_same) (defScope s__law_same) .none kV__law_same dc__law_same pm__law_same an__law_same cd__law_same ct__law_same), sl__law_same⟩)
    (c__law_same : PySem.W.codeIn K cd__law_same "_law_same" = true)
    (k__law_same : PySem.W.keepIn K (.ref f__law_same) = true)
    (a__law_of : PySem.W.nsIn K mainGlobals "_law_of" = some (some (.ref f__law_of)))
    (l__law_of : K.lookup f__law_of = some ⟨oc__law_of, od__law_of, .func (PySem.W.fnOf "_law_of" "_law_of" (defArgs s__law_of) (defBody s__law_of) (defScope s__law_of) .none kV__law_of dc__law_of pm__law_of an__law_of cd__law_of ct__law_of), sl__law_of⟩)
    (c__law_of : PySem.W.codeIn K cd__law_of "_law_of" = true)
    (k__law_of : PySem.W.keepIn K (.ref f__law_of) = true)
    (a__law_frac : PySem.W.nsIn K mainGlobals "_law_frac" = some (some (.ref f__law_frac)))
    (l__law_frac : K.lookup f__law_frac = some ⟨oc__law_frac, od__law_frac, .func (PySem.W.fnOf "_law_frac" "_law_frac" (defArgs s__law_frac) (defBody s__law_frac) (defScope s__law_frac) .none kV__law_frac dc__law_frac pm__law_frac an__law_frac cd__law_frac ct__law_frac), sl__law_frac⟩)
    (c__law_frac : PySem.W.codeIn K cd__law_frac "_law_frac" = true)
    (k__law_frac : PySem.W.keepIn K (.ref f__law_frac) = true)
    (a__law_plus : PySem.W.nsIn K mainGlobals "_law_plus" = some (some (.ref f__law_plus)))
    (l__law_plus : K.lookup f__law_plus = some ⟨oc__law_plus, od__law_plus, .func (PySem.W.fnOf "_law_plus" "_law_plus" (defArgs s__law_plus) (defBody s__law_plus) (defScope s__law_plus) .none kV__law_plus dc__law_plus pm__law_plus an__law_plus cd__law_plus ct__law_plus), sl__law_plus⟩)
    (c__law_plus : PySem.W.codeIn K cd__law_plus "_law_plus" = true)
    (k__law_plus : PySem.W.keepIn K (.ref f__law_plus) = true)
    (a__law_less : PySem.W.nsIn K mainGlobals "_law_less" = some (some (.ref f__law_less)))
    (l__law_less : K.lookup f__law_less = some ⟨oc__law_less, od__law_less, .func (PySem.W.fnOf "_law_less" "_law_less" (defArgs s__law_less) (defBody s__law_less) (defScope s__law_less) .none kV__law_less dc__law_less pm__law_less an__law_less cd__law_less ct__law_less), sl__law_less⟩)
    (c__law_less : PySem.W.codeIn K cd__law_less "_law_less" = true)
    (k__law_less : PySem.W.keepIn K (.ref f__law_less) = true)
    (a__law_times : PySem.W.nsIn K mainGlobals "_law_times" = some (some (.ref f__law_times)))
    (l__law_times : K.lookup f__law_times = some ⟨oc__law_times, od__law_times, .func (PySem.W.fnOf "_law_times" "_law_times" (defArgs s__law_times) (defBody s__law_times) (defScope s__law_times) .none kV__law_times dc__law_times pm__law_times an__law_times cd__law_times ct__law_times), sl__law_times⟩)
    (c__law_times : PySem.W.codeIn K cd__law_times "_law_times" = true)
    (k__law_times : PySem.W.keepIn K (.ref f__law_times) = true)
    (a__law_over : PySem.W.nsIn K mainGlobals "_law_over" = some (some (.ref f__law_over)))
    (l__law_over : K.lookup f__law_over = some ⟨oc__law_over, od__law_over, .func (PySem.W.fnOf "_law_over" "_law_over" (defArgs s__law_over) (defBody s__law_over) (defScope s__law_over) .none kV__law_over dc__law_over pm__law_over an__law_over cd__law_over ct__law_over), sl__law_over⟩)
    (c__law_over : PySem.W.codeIn K cd__law_over "_law_over" = true)
    (k__law_over : PySem.W.keepIn K (.ref f__law_over) = true)
    (a__law_draw : PySem.W.nsIn K mainGlobals "_law_draw" = some (some (.ref f__law_draw)))
    (l__law_draw : K.lookup f__law_draw = some ⟨oc__law_draw, od__law_draw, .func (PySem.W.fnOf "_law_draw" "_law_draw" (defArgs s__law_draw) (defBody s__law_draw) (defScope s__law_draw) .none kV__law_draw dc__law_draw pm__law_draw an__law_draw cd__law_draw ct__law_draw), sl__law_draw⟩)
    (c__law_draw : PySem.W.codeIn K cd__law_draw "_law_draw" = true)
    (k__law_draw : PySem.W.keepIn K (.ref f__law_draw) = true)
    (a__law_is_lowered : PySem.W.nsIn K mainGlobals "_law_is_lowered" = some (some (.ref f__law_is_lowered)))
    (l__law_is_lowered : K.lookup f__law_is_lowered = some ⟨oc__law_is_lowered, od__law_is_lowered, .func (PySem.W.fnOf "_law_is_lowered" "_law_is_lowered" (defArgs s__law_is_lowered) (defBody s__law_is_lowered) (defScope s__law_is_lowered) .none kV__law_is_lowered dc__law_is_lowered pm__law_is_lowered an__law_is_lowered cd__law_is_lowered ct__law_is_lowered), sl__law_is_lowered⟩)
    (c__law_is_lowered : PySem.W.codeIn K cd__law_is_lowered "_law_is_lowered" = true)
    (k__law_is_lowered : PySem.W.keepIn K (.ref f__law_is_lowered) = true)
    (a__law_told_right : PySem.W.nsIn K mainGlobals "_law_told_right" = some (some (.ref f__law_told_right)))
    (l__law_told_right : K.lookup f__law_told_right = some ⟨oc__law_told_right, od__law_told_right, .func (PySem.W.fnOf "_law_told_right" "_law_told_right" (defArgs s__law_told_right) (defBody s__law_told_right) (defScope s__law_told_right) .none kV__law_told_right dc__law_told_right pm__law_told_right an__law_told_right cd__law_told_right ct__law_told_right), sl__law_told_right⟩)
    (c__law_told_right : PySem.W.codeIn K cd__law_told_right "_law_told_right" = true)
    (k__law_told_right : PySem.W.keepIn K (.ref f__law_told_right) = true)
    (a__law_one_right : PySem.W.nsIn K mainGlobals "_law_one_right" = some (some (.ref f__law_one_right)))
    (l__law_one_right : K.lookup f__law_one_right = some ⟨oc__law_one_right, od__law_one_right, .func (PySem.W.fnOf "_law_one_right" "_law_one_right" (defArgs s__law_one_right) (defBody s__law_one_right) (defScope s__law_one_right) .none kV__law_one_right dc__law_one_right pm__law_one_right an__law_one_right cd__law_one_right ct__law_one_right), sl__law_one_right⟩)
    (c__law_one_right : PySem.W.codeIn K cd__law_one_right "_law_one_right" = true)
    (k__law_one_right : PySem.W.keepIn K (.ref f__law_one_right) = true)
    (a_law : PySem.W.nsIn K mainGlobals "law" = some (some (.ref f_law)))
    (l_law : K.lookup f_law = some ⟨oc_law, od_law, .func (PySem.W.fnOf "law" "law" (defArgs s_law) (defBody s_law) (defScope s_law) .none kV_law dc_law pm_law an_law cd_law ct_law), sl_law⟩)
    (c_law : PySem.W.codeIn K cd_law "law" = true)
    (k_law : PySem.W.keepIn K (.ref f_law) = true)
    (z_abs : PySem.W.nsIn K mainGlobals "abs" = some none)
    (z_all : PySem.W.nsIn K mainGlobals "all" = some none)
    (z_bool : PySem.W.nsIn K mainGlobals "bool" = some none)
    (z_int : PySem.W.nsIn K mainGlobals "int" = some none)
    (z_isinstance : PySem.W.nsIn K mainGlobals "isinstance" = some none)
    (z_len : PySem.W.nsIn K mainGlobals "len" = some none)
    (z_list : PySem.W.nsIn K mainGlobals "list" = some none)
    (z_min : PySem.W.nsIn K mainGlobals "min" = some none)
    (z_range : PySem.W.nsIn K mainGlobals "range" = some none)
    (z_repr : PySem.W.nsIn K mainGlobals "repr" = some none)
    (z_tuple : PySem.W.nsIn K mainGlobals "tuple" = some none)
    (z_zip : PySem.W.nsIn K mainGlobals "zip" = some none)
    (z_gcd : PySem.W.nsIn K mainGlobals "gcd" = some (some (.builtin "math.gcd"))) :
    ∃ fd : FuncData, Fun K "law" "law" s_law fa fd ∧ (∀ (s : Shared) (u : Value), BindsTo s fd ⟨[u], []⟩ [("_law_script", u)]) ∧
      ∀ (base : Heap) (cdv : Value) (s : Shared) (H : Hp) (a : Addr) (ns : List Int), ns.length ≤ 63 → K.In base → base.Ns mainGlobals mg → Room 7 (PySem.callerA.deeper (PyProof.Rows.envOfC "law" (defScope s_law) s.heap.objs.size fa cdv)) → SqL K H a (ns.map V.int) →
        ∃ t, PSs (cxOf CX0 PL.prog w K mg base N_law "law" (defScope s_law) fa cdv PySem.callerA [] s H E0).nox (defBody s_law) t ∧ t { nx := fun _ _ => False, rt := fun v _ => v = .bl true } (L2.start N_law [.ref a]) H := by
  cases hfa.symm.trans (PySem.W.mg_of X G a_law)
  have Z : Zx mg := ⟨PySem.W.mg_none_of X G z_abs, PySem.W.mg_none_of X G z_all, PySem.W.mg_none_of X G z_bool, PySem.W.mg_none_of X G z_int, PySem.W.mg_none_of X G z_isinstance, PySem.W.mg_none_of X G z_len, PySem.W.mg_none_of X G z_list, PySem.W.mg_none_of X G z_min, PySem.W.mg_none_of X G z_range, PySem.W.mg_none_of X G z_repr, PySem.W.mg_none_of X G z_tuple, PySem.W.mg_none_of X G z_zip, PySem.W.mg_of X G z_gcd⟩
  have F_is_number := fun_mk (st := s_is_number) l_is_number c_is_number k_is_number
  have F_is_frac := fun_mk (st := s_is_frac) l_is_frac c_is_frac k_is_frac
  have F_plus := fun_mk (st := s_plus) l_plus c_plus k_plus
  have F_minus := fun_mk (st := s_minus) l_minus c_minus k_minus
  have F_times := fun_mk (st := s_times) l_times c_times k_times
  have F_over := fun_mk (st := s_over) l_over c_over k_over
  have F_sign_of := fun_mk (st := s_sign_of) l_sign_of c_sign_of k_sign_of
  have F_floor_of := fun_mk (st := s_floor_of) l_floor_of c_floor_of k_floor_of
  have F__law_cell_at := fun_mk (st := s__law_cell_at) l__law_cell_at c__law_cell_at k__law_cell_at
  have F__law_box := fun_mk (st := s__law_box) l__law_box c__law_box k__law_box
  have F__law_take := fun_mk (st := s__law_take) l__law_take c__law_take k__law_take
  have F__law_same := fun_mk (st := s__law_same) l__law_same c__law_same k__law_same
  have F__law_of := fun_mk (st := s__law_of) l__law_of c__law_of k__law_of
  have F__law_frac := fun_mk (st := s__law_frac) l__law_frac c__law_frac k__law_frac
  have F__law_plus := fun_mk (st := s__law_plus) l__law_plus c__law_plus k__law_plus
  have F__law_less := fun_mk (st := s__law_less) l__law_less c__law_less k__law_less
  have F__law_times := fun_mk (st := s__law_times) l__law_times c__law_times k__law_times
  have F__law_over := fun_mk (st := s__law_over) l__law_over c__law_over k__law_over
  have F__law_draw := fun_mk (st := s__law_draw) l__law_draw c__law_draw k__law_draw
  have F__law_is_lowered := fun_mk (st := s__law_is_lowered) l__law_is_lowered c__law_is_lowered k__law_is_lowered
  have F__law_told_right := fun_mk (st := s__law_told_right) l__law_told_right c__law_told_right k__law_told_right
  have F__law_one_right := fun_mk (st := s__law_one_right) l__law_one_right c__law_one_right k__law_one_right
  have F_law := fun_mk (st := s_law) l_law c_law k_law
  have F_frac : FunD K "frac" "frac" (defArgs s_frac) (defBody s_frac) (defScope s_frac) [.int 1] [] _ _ := ⟨⟨_, _, .ref T_frac, kV_frac, dc_frac, pm_frac, an_frac, cd_frac, ct_frac, _, rfl, l_frac, c_frac, .inr ⟨by simp, T_frac, _, _, _, rfl, t_frac, rfl, .cons ⟨_, rfl⟩ .nil⟩, .inl rfl⟩, k_frac⟩
  refine ⟨_, F_law, fun s u => .of_eq rfl, fun base cdv s H a ns hl X2 G2 hr hS => ?_⟩
  have O_frac : FnOk PL.prog w K mg base CX0 1 _ _ _ _ := ok_frac Z F_frac
  have C_frac : Cb PL.prog w K mg base "frac" 1 [] _ := cbD_mk 2 1 F_frac (by simp) rfl (PySem.W.mg_of X G a_frac) O_frac (fun _ _ _ _ _ _ _ us its h1 h2 => match us, its, h1, h2 with | [_, _], [_], _, _ => ⟨_, rfl, rfl⟩)
  have D_frac : Cb PL.prog w K mg base "frac" 1 [.int 1] _ := cbD_mk 1 0 F_frac (by simp) rfl (PySem.W.mg_of X G a_frac) O_frac (fun _ _ _ _ _ _ _ us its h1 h2 => match us, its, h1, h2 with | [_], [_], _, _ => ⟨_, rfl, rfl⟩)
  have K_frac : Ck PL.prog w K mg base "frac" 1 ["bottom", "top"] swap2 _ := ckD_mk F_frac (by simp) (PySem.W.mg_of X G a_frac) O_frac (fun h => vals_swap2 h) (fun _ _ _ _ _ _ _ ws its h1 h2 => match ws, its, h1, h2 with | [_, _], [_], _, _ => ⟨_, rfl, rfl⟩)
  have C_is_number : Cb PL.prog w K mg base "is_number" 1 [] _ := cb_mk F_is_number (PySem.W.mg_of X G a_is_number) (ok_num Z F_is_number) (fun _ _ _ _ _ _ us hl => match us, hl with | [_], _ => rfl)
  have C_is_frac : Cb PL.prog w K mg base "is_frac" 2 [] _ := cb_mk F_is_frac (PySem.W.mg_of X G a_is_frac) (ok_isF Z C_is_number F_is_frac) (fun _ _ _ _ _ _ us hl => match us, hl with | [_], _ => rfl)
  have O_plus : FnOk PL.prog w K mg base CX0 2 _ _ _ _ := ok_plus C_frac F_plus
  have C_plus : Cb PL.prog w K mg base "plus" 2 [] _ := cb_mk F_plus (PySem.W.mg_of X G a_plus) (O_plus) (fun _ _ _ _ _ _ us hl => match us, hl with | [_, _], _ => rfl)
  have K_plus : Ck PL.prog w K mg base "plus" 2 ["other", "one"] swap2 _ := ck_mk F_plus (PySem.W.mg_of X G a_plus) (O_plus) (fun h => vals_swap2 h) (fun _ _ _ _ _ _ ws hl => match ws, hl with | [_, _], _ => rfl)
  have O_minus : FnOk PL.prog w K mg base CX0 2 _ _ _ _ := ok_minus C_frac F_minus
  have C_minus : Cb PL.prog w K mg base "minus" 2 [] _ := cb_mk F_minus (PySem.W.mg_of X G a_minus) (O_minus) (fun _ _ _ _ _ _ us hl => match us, hl with | [_, _], _ => rfl)
  have K_minus : Ck PL.prog w K mg base "minus" 2 ["other", "one"] swap2 _ := ck_mk F_minus (PySem.W.mg_of X G a_minus) (O_minus) (fun h => vals_swap2 h) (fun _ _ _ _ _ _ ws hl => match ws, hl with | [_, _], _ => rfl)
  have O_times : FnOk PL.prog w K mg base CX0 2 _ _ _ _ := ok_times C_frac F_times
  have C_times : Cb PL.prog w K mg base "times" 2 [] _ := cb_mk F_times (PySem.W.mg_of X G a_times) (O_times) (fun _ _ _ _ _ _ us hl => match us, hl with | [_, _], _ => rfl)
  have K_times : Ck PL.prog w K mg base "times" 2 ["other", "one"] swap2 _ := ck_mk F_times (PySem.W.mg_of X G a_times) (O_times) (fun h => vals_swap2 h) (fun _ _ _ _ _ _ ws hl => match ws, hl with | [_, _], _ => rfl)
  have O_over : FnOk PL.prog w K mg base CX0 2 _ _ _ _ := ok_over C_frac F_over
  have C_over : Cb PL.prog w K mg base "over" 2 [] _ := cb_mk F_over (PySem.W.mg_of X G a_over) (O_over) (fun _ _ _ _ _ _ us hl => match us, hl with | [_, _], _ => rfl)
  have K_over : Ck PL.prog w K mg base "over" 2 ["other", "one"] swap2 _ := ck_mk F_over (PySem.W.mg_of X G a_over) (O_over) (fun h => vals_swap2 h) (fun _ _ _ _ _ _ ws hl => match ws, hl with | [_, _], _ => rfl)
  have O_sign_of : FnOk PL.prog w K mg base CX0 1 _ _ _ _ := ok_sign F_sign_of
  have C_sign_of : Cb PL.prog w K mg base "sign_of" 1 [] _ := cb_mk F_sign_of (PySem.W.mg_of X G a_sign_of) (O_sign_of) (fun _ _ _ _ _ _ us hl => match us, hl with | [_], _ => rfl)
  have K_sign_of : Ck PL.prog w K mg base "sign_of" 1 ["one"] same1 _ := ck_mk F_sign_of (PySem.W.mg_of X G a_sign_of) (O_sign_of) (fun h => vals_same1 h) (fun _ _ _ _ _ _ ws hl => match ws, hl with | [_], _ => rfl)
  have O_floor_of : FnOk PL.prog w K mg base CX0 1 _ _ _ _ := ok_floor F_floor_of
  have C_floor_of : Cb PL.prog w K mg base "floor_of" 1 [] _ := cb_mk F_floor_of (PySem.W.mg_of X G a_floor_of) (O_floor_of) (fun _ _ _ _ _ _ us hl => match us, hl with | [_], _ => rfl)
  have K_floor_of : Ck PL.prog w K mg base "floor_of" 1 ["one"] same1 _ := ck_mk F_floor_of (PySem.W.mg_of X G a_floor_of) (O_floor_of) (fun h => vals_same1 h) (fun _ _ _ _ _ _ ws hl => match ws, hl with | [_], _ => rfl)
  have C__law_cell_at : Cb PL.prog w K mg base "_law_cell_at" 1 [] _ := cb_mk F__law_cell_at (PySem.W.mg_of X G a__law_cell_at) (ok_cell Z F__law_cell_at) (fun _ _ _ _ _ _ us hl => match us, hl with | [_, _], _ => rfl)
  have C__law_box : Cb PL.prog w K mg base "_law_box" 2 [] _ := cb_mk F__law_box (PySem.W.mg_of X G a__law_box) (ok_box Z C__law_cell_at F__law_box) (fun _ _ _ _ _ _ us hl => match us, hl with | [_, _], _ => rfl)
  have C__law_take : Cb PL.prog w K mg base "_law_take" 1 [] _ := cb_mk F__law_take (PySem.W.mg_of X G a__law_take) (ok_take F__law_take) (fun _ _ _ _ _ _ us hl => match us, hl with | [_, _], _ => rfl)
  have C__law_of : Cb PL.prog w K mg base "_law_of" 2 [] _ := cb_mk F__law_of (PySem.W.mg_of X G a__law_of) (ok_of Z C__law_take F__law_of) (fun _ _ _ _ _ _ us hl => match us, hl with | [_, _], _ => rfl)
  have C__law_frac : Cb PL.prog w K mg base "_law_frac" 1 [] _ := cb_mk F__law_frac (PySem.W.mg_of X G a__law_frac) (ok_lfrac Z F__law_frac) (fun _ _ _ _ _ _ us hl => match us, hl with | [_, _], _ => rfl)
  have C__law_same : Cb PL.prog w K mg base "_law_same" 5 [] _ := cb_mk F__law_same (PySem.W.mg_of X G a__law_same) (ok_same Z (PySem.W.mg_of X G a__law_same) F__law_same 5) (fun _ _ _ _ _ _ us hl => match us, hl with | [_, _], _ => rfl)
  have C__law_plus : Cb PL.prog w K mg base "_law_plus" 2 [] _ := cb_mk F__law_plus (PySem.W.mg_of X G a__law_plus) (ok_lplus C__law_frac F__law_plus) (fun _ _ _ _ _ _ us hl => match us, hl with | [_, _], _ => rfl)
  have C__law_less : Cb PL.prog w K mg base "_law_less" 2 [] _ := cb_mk F__law_less (PySem.W.mg_of X G a__law_less) (ok_lless C__law_frac F__law_less) (fun _ _ _ _ _ _ us hl => match us, hl with | [_, _], _ => rfl)
  have C__law_times : Cb PL.prog w K mg base "_law_times" 2 [] _ := cb_mk F__law_times (PySem.W.mg_of X G a__law_times) (ok_ltimes C__law_frac F__law_times) (fun _ _ _ _ _ _ us hl => match us, hl with | [_, _], _ => rfl)
  have C__law_over : Cb PL.prog w K mg base "_law_over" 2 [] _ := cb_mk F__law_over (PySem.W.mg_of X G a__law_over) (ok_lover C__law_frac F__law_over) (fun _ _ _ _ _ _ us hl => match us, hl with | [_, _], _ => rfl)
  have C__law_draw : Cb PL.prog w K mg base "_law_draw" 3 [] _ := cb_mk F__law_draw (PySem.W.mg_of X G a__law_draw) (ok_draw C__law_take C__law_of C__law_frac F__law_draw) (fun _ _ _ _ _ _ us hl => match us, hl with | [_, _], _ => rfl)
  have C__law_is_lowered : Cb PL.prog w K mg base "_law_is_lowered" 2 [] _ := cb_mk F__law_is_lowered (PySem.W.mg_of X G a__law_is_lowered) (ok_low Z C__law_frac F__law_is_lowered) (fun _ _ _ _ _ _ us hl => match us, hl with | [_], _ => rfl)
  have C__law_told_right : Cb PL.prog w K mg base "_law_told_right" 6 [] _ := cb_mk F__law_told_right (PySem.W.mg_of X G a__law_told_right) (ok_told Z C_plus C_minus C_times C_over K_plus K_minus K_times K_over C__law_plus C__law_less C__law_times C__law_over C__law_same F__law_told_right) (fun _ _ _ _ _ _ us hl => match us, hl with | [_, _], _ => rfl)
  have C__law_one_right : Cb PL.prog w K mg base "_law_one_right" 6 [] _ := cb_mk F__law_one_right (PySem.W.mg_of X G a__law_one_right) (ok_one Z C_sign_of C_floor_of C_is_frac K_sign_of K_floor_of C__law_same F__law_one_right) (fun _ _ _ _ _ _ us hl => match us, hl with | [_], _ => rfl)
  exact w_law (scr := a) Z hl hr rfl C__law_box C__law_take C__law_of C__law_frac C_frac K_frac D_frac C__law_same C__law_draw C_plus C_times C__law_told_right C__law_one_right C_is_frac C__law_is_lowered C_floor_of hS
end K01
open PySem PySem.W PyProof.Rows
set_option maxHeartbeats 0 in
theorem PySem.Challenge.cw_pegwishes_k01_fractions_reckoned_holds : PySem.Challenge.rw_pegwishes_k01_fractions_reckoned.Holds := by
  w_on; o_law; k_head; (case hw => w_witness2)
  k_fill
  refine Pw.law_end (l := PySem.Challenge.rw_pegwishes_k01_fractions_reckoned) (n := 63) (k := 7) (x := "_law_script") (nm := "law") (qual := "law") (st := K01.s_law) (N := K01.N_law) rfl (by decide) rfl ⟨rfl, by decide, by decide⟩ (fun w h Y => PySem.W.kIn_of Y) K01.sc_law ?F
  case F =>
    intro w mg fa h KX G hmg
    refine' K01.all_mk KX G hmg ?a_is_number ?l_is_number ?c_is_number ?k_is_number ?a_is_frac ?l_is_frac ?c_is_frac ?k_is_frac ?a_frac ?l_frac ?c_frac ?k_frac ?t_frac ?a_plus ?l_plus ?c_plus ?k_plus ?a_minus ?l_minus ?c_minus ?k_minus ?a_times ?l_times ?c_times ?k_times ?a_over ?l_over ?c_over ?k_over ?a_sign_of ?l_sign_of ?c_sign_of ?k_sign_of ?a_floor_of ?l_floor_of ?c_floor_of ?k_floor_of ?a__law_cell_at ?l__law_cell_at ?c__law_cell_at ?k__law_cell_at ?a__law_box ?l__law_box ?c__law_box ?k__law_box ?a__law_take ?l__law_take ?c__law_take ?k__law_take ?a__law_same ?l__law_same ?c__law_same ?k__law_same ?a__law_of ?l__law_of ?c__law_of ?k__law_of ?a__law_frac ?l__law_frac ?c__law_frac ?k__law_frac ?a__law_plus ?l__law_plus ?c__law_plus ?k__law_plus ?a__law_less ?l__law_less ?c__law_less ?k__law_less ?a__law_times ?l__law_times ?c__law_times ?k__law_times ?a__law_over ?l__law_over ?c__law_over ?k__law_over ?a__law_draw ?l__law_draw ?c__law_draw ?k__law_draw ?a__law_is_lowered ?l__law_is_lowered ?c__law_is_lowered ?k__law_is_lowered ?a__law_told_right ?l__law_told_right ?c__law_told_right ?k__law_told_right ?a__law_one_right ?l__law_one_right ?c__law_one_right ?k__law_one_right ?a_law ?l_law ?c_law ?k_law ?z_abs ?z_all ?z_bool ?z_int ?z_isinstance ?z_len ?z_list ?z_min ?z_range ?z_repr ?z_tuple ?z_zip ?z_gcd
    (case a_is_number => k_is); (case l_is_number => k_is); (case c_is_number => k_is); (case k_is_number => k_is); (case a_is_frac => k_is); (case l_is_frac => k_is); (case c_is_frac => k_is); (case k_is_frac => k_is); (case a_frac => k_is); (case l_frac => k_is); (case c_frac => k_is); (case k_frac => k_is); (case t_frac => k_is); (case a_plus => k_is); (case l_plus => k_is); (case c_plus => k_is); (case k_plus => k_is); (case a_minus => k_is); (case l_minus => k_is); (case c_minus => k_is); (case k_minus => k_is); (case a_times => k_is); (case l_times => k_is); (case c_times => k_is); (case k_times => k_is); (case a_over => k_is); (case l_over => k_is); (case c_over => k_is); (case k_over => k_is); (case a_sign_of => k_is); (case l_sign_of => k_is); (case c_sign_of => k_is); (case k_sign_of => k_is); (case a_floor_of => k_is); (case l_floor_of => k_is); (case c_floor_of => k_is); (case k_floor_of => k_is); (case a__law_cell_at => k_is); (case l__law_cell_at => k_is); (case c__law_cell_at => k_is); (case k__law_cell_at => k_is); (case a__law_box => k_is); (case l__law_box => k_is); (case c__law_box => k_is); (case k__law_box => k_is); (case a__law_take => k_is); (case l__law_take => k_is); (case c__law_take => k_is); (case k__law_take => k_is); (case a__law_same => k_is); (case l__law_same => k_is); (case c__law_same => k_is); (case k__law_same => k_is); (case a__law_of => k_is); (case l__law_of => k_is); (case c__law_of => k_is); (case k__law_of => k_is); (case a__law_frac => k_is); (case l__law_frac => k_is); (case c__law_frac => k_is); (case k__law_frac => k_is); (case a__law_plus => k_is); (case l__law_plus => k_is); (case c__law_plus => k_is); (case k__law_plus => k_is); (case a__law_less => k_is); (case l__law_less => k_is); (case c__law_less => k_is); (case k__law_less => k_is); (case a__law_times => k_is); (case l__law_times => k_is); (case c__law_times => k_is); (case k__law_times => k_is); (case a__law_over => k_is); (case l__law_over => k_is); (case c__law_over => k_is); (case k__law_over => k_is); (case a__law_draw => k_is); (case l__law_draw => k_is); (case c__law_draw => k_is); (case k__law_draw => k_is); (case a__law_is_lowered => k_is); (case l__law_is_lowered => k_is); (case c__law_is_lowered => k_is); (case k__law_is_lowered => k_is); (case a__law_told_right => k_is); (case l__law_told_right => k_is); (case c__law_told_right => k_is); (case k__law_told_right => k_is); (case a__law_one_right => k_is); (case l__law_one_right => k_is); (case c__law_one_right => k_is); (case k__law_one_right => k_is); (case a_law => k_is); (case l_law => k_is); (case c_law => k_is); (case k_law => k_is); (case z_abs => k_is); (case z_all => k_is); (case z_bool => k_is); (case z_int => k_is); (case z_isinstance => k_is); (case z_len => k_is); (case z_list => k_is); (case z_min => k_is); (case z_range => k_is); (case z_repr => k_is); (case z_tuple => k_is); (case z_zip => k_is); (case z_gcd => k_is)
