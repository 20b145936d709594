import PyProof.Rows.All
import Wide.All
import OpenK.AllK
import Wide.FinOn
import HandS.ForMost
import HandS.ForExc
import HandS.Wide
import HandS.IsInst
import HandS.Gcd
import HandS.Zip
import HandS.TupAny
import HandS.TupLe
import HandS.Defaults
import HandS.Small
import HandS.ExcInit
import KE.KExcIs
import HandS.ExcField
import HandS.Iter
import HandS.Text
import HandS.StrMore
import HandS.Codes
import PyProof.StrBlock2
import HandS.Style
import PyProof.ReprLen
import PySem.Challenge.RW_pegwishes_k04_signs_and_which_is_less
set_option Elab.async false
set_option linter.all false
set_option maxRecDepth 100000
set_option maxHeartbeats 8000000
namespace Pw
open PySem L2

/-! ## data that stands in the heap, some objects set apart -/
abbrev Fg := PySem.W.Frag
mutual
inductive At (K : Fg) (H : Hp) : V → PyData → Prop
  | non : At K H .non .none
  | bl (b : Bool) : At K H (.bl b) (.bool b)
  | int (i : Int) : At K H (.int i) (.int i)
  | str (x : Str) : At K H (.str x) (.str x)
  | lst {a : Addr} {xs : List V} {ds : List PyData} : H a = some (.lst xs) → AtAll K H xs ds → At K H (.ref a) (.list ds)
  | tup {a : Addr} {xs : List V} {ds : List PyData} : SqT K H a xs → AtAll K H xs ds → At K H (.ref a) (.tuple ds)
inductive AtAll (K : Fg) (H : Hp) : List V → List PyData → Prop
  | nil : AtAll K H [] []
  | cons {v : V} {vs : List V} {d : PyData} {ds : List PyData} : At K H v d → AtAll K H vs ds → AtAll K H (v :: vs) (d :: ds)
end
theorem same_t {K : Fg} {H H' : Hp} {a : Addr} {xs : List V} (e : Same H H') (h : SqT K H a xs) : SqT K H' a xs := by
  rcases h with (h | ⟨o, h⟩) | h
  · exact .inl (.inl (e _ _ h))
  · exact .inl (.inr ⟨o, e _ _ h⟩)
  · exact .inr h
mutual
theorem At.mono {K : Fg} {H H' : Hp} (e : Same H H') : ∀ (d : PyData) (v : V), At K H v d → At K H' v d
  | .none, _, .non => .non
  | .bool _, _, .bl _ => .bl _
  | .int _, _, .int _ => .int _
  | .str _, _, .str _ => .str _
  | .list ds, _, .lst h a => .lst (e _ _ h) (AtAll.mono e ds _ a)
  | .tuple ds, _, .tup h a => .tup (same_t e h) (AtAll.mono e ds _ a)
theorem AtAll.mono {K : Fg} {H H' : Hp} (e : Same H H') : ∀ (ds : List PyData) (vs : List V), AtAll K H vs ds → AtAll K H' vs ds
  | [], _, .nil => .nil
  | d :: ds, _, .cons h t => .cons (At.mono e d _ h) (AtAll.mono e ds _ t)
end
mutual
theorem At.dp {K : Fg} {H : Hp} : ∀ (d : PyData) (v : V), At K H v d → Dp K H v d
  | .none, _, .non => .non
  | .bool _, _, .bl _ => .bl _
  | .int _, _, .int _ => .int _
  | .str _, _, .str _ => .str _
  | .list ds, _, .lst h a => .lst (SqL.of h) (AtAll.dp ds _ a)
  | .tuple ds, _, .tup h a => .tup h (AtAll.dp ds _ a)
theorem AtAll.dp {K : Fg} {H : Hp} : ∀ (ds : List PyData) (vs : List V), AtAll K H vs ds → DpAll K H vs ds
  | [], _, .nil => .nil
  | d :: ds, _, .cons h t => .cons (At.dp d _ h) (AtAll.dp ds _ t)
end
theorem AtAll.len {K : Fg} {H : Hp} : ∀ {vs : List V} {ds : List PyData}, AtAll K H vs ds → vs.length = ds.length
  | _, _, .nil => rfl
  | _, _, .cons _ t => congrArg Nat.succ (AtAll.len t)
theorem AtAll.get {K : Fg} {H : Hp} : ∀ {vs : List V} {ds : List PyData} {i : Nat} {d : PyData}, AtAll K H vs ds → ds[i]? = some d → ∃ v, vs[i]? = some v ∧ At K H v d
  | _, _, 0, _, .cons h _, e => ⟨_, rfl, Option.some.inj e ▸ h⟩
  | _, _, i + 1, _, .cons _ t, e => AtAll.get (i := i) t e
theorem AtAll.append {K : Fg} {H : Hp} : ∀ {vs ws : List V} {ds es : List PyData}, AtAll K H vs ds → AtAll K H ws es → AtAll K H (vs ++ ws) (ds ++ es)
  | _, _, _, _, .nil, s => s
  | _, _, _, _, .cons h t, s => .cons h (AtAll.append t s)
theorem AtAll.set {K : Fg} {H : Hp} {v : V} {d : PyData} (h : At K H v d) : ∀ {vs : List V} {ds : List PyData} (i : Nat), AtAll K H vs ds → AtAll K H (vs.set i v) (ds.set i d)
  | _, _, _, .nil => .nil
  | _, _, 0, .cons _ t => .cons h t
  | _, _, i + 1, .cons g t => .cons g (AtAll.set h i t)
theorem AtAll.drop {K : Fg} {H : Hp} : ∀ {vs : List V} {ds : List PyData} (n : Nat), AtAll K H vs ds → AtAll K H (vs.drop n) (ds.drop n)
  | _, _, 0, r => r
  | _, _, _ + 1, .nil => .nil
  | _, _, n + 1, .cons _ t => AtAll.drop n t
theorem AtAll.take {K : Fg} {H : Hp} : ∀ {vs : List V} {ds : List PyData} (n : Nat), AtAll K H vs ds → AtAll K H (vs.take n) (ds.take n)
  | _, _, 0, _ => .nil
  | _, _, _ + 1, .nil => .nil
  | _, _, n + 1, .cons r t => .cons r (AtAll.take n t)
theorem AtAll.ints {K : Fg} {H : Hp} : ∀ {vs : List V} {ns : List Int}, AtAll K H vs (ns.map PyData.int) → vs = ns.map V.int
  | _, [], .nil => rfl
  | _, n :: ns, .cons (.int _) t => congrArg (V.int n :: ·) (AtAll.ints t)
theorem AtAll.bls {K : Fg} {H : Hp} : ∀ {vs : List V} {ns : List Bool}, AtAll K H vs (ns.map PyData.bool) → vs = ns.map V.bl
  | _, [], .nil => rfl
  | _, n :: ns, .cons (.bl _) t => congrArg (V.bl n :: ·) (AtAll.bls t)

def hid (M : List Addr) (H : Hp) : Hp := fun a => if a ∈ M then none else H a
theorem hid_in {M : List Addr} {H : Hp} {a : Addr} (h : a ∈ M) : hid M H a = none := if_pos h
theorem hid_out {M : List Addr} {H : Hp} {a : Addr} (h : a ∉ M) : hid M H a = H a := if_neg h
theorem hid_some {M : List Addr} {H : Hp} {a : Addr} {o : HO} (h : hid M H a = some o) : a ∉ M ∧ H a = some o := by
  by_cases c : a ∈ M
  · rw [hid_in c] at h; cases h
  · rw [hid_out c] at h; exact ⟨c, h⟩
theorem hid_same {M : List Addr} {H : Hp} : Same (hid M H) H := fun _ _ h => (hid_some h).2
theorem hid_upd {M : List Addr} {H : Hp} {p : Addr} {o : HO} (h : p ∈ M) : hid M (upd H p o) = hid M H := by
  funext a
  by_cases c : a ∈ M
  · rw [hid_in c, hid_in c]
  · rw [hid_out c, hid_out c, upd_ne (fun e => c (by rw [e]; exact h))]
theorem hid_sub {M N : List Addr} {H : Hp} (h : ∀ a, a ∈ M → a ∈ N) : Same (hid N H) (hid M H) := fun a o e => by
  obtain ⟨c, e⟩ := hid_some e
  rw [hid_out (fun m => c (h a m))]
  exact e
theorem hid_new {M : List Addr} {H : Hp} {p : Addr} {o : HO} (hp : H p = none) : Same (hid M H) (hid M (upd H p o)) := fun a u e => by
  obtain ⟨c, e⟩ := hid_some e
  rw [hid_out c, upd_ne (ne_of_none e hp)]
  exact e
theorem same_hid {M : List Addr} {H H' : Hp} (h : Same H H') : Same (hid M H) (hid M H') := fun a o e => by
  obtain ⟨c, e⟩ := hid_some e
  rw [hid_out c]
  exact h _ _ e

/-- a value of the logic: data, a list of the store (by its number), the script -/
inductive Dx where
  | d (d : PyData) | loc (k : Nat) | scr (ns : List Int) | exc (cls : Value) (fo : Option (Str × PyData))
/-- an exception at a, held: its class, its dict -/
def exk (cls : Value) (d : Option Addr) (a : Addr) : HO := .ext fun h => ∃ (oe : Obj) (vs : Array Value), h.get? a = some oe ∧ Zc cls d oe ∧ oe.data = .fields vs
/-- an error's own dict -/
inductive XD (K : Fg) (M : List Addr) (H : Hp) : Option Addr → Option (Str × PyData) → Prop
  | none : XD K M H none none
  | one {dx : Addr} {f : Str} {v : V} {y : PyData} : hid M H dx = some (.xd [(f, v)]) → At K (hid M H) v y → XD K M H (some dx) (some (f, y))
theorem XD.up {K : Fg} {M M' : List Addr} {H H' : Hp} {d : Option Addr} {fo : Option (Str × PyData)} (e : Same (hid M H) (hid M' H')) (h : XD K M H d fo) : XD K M' H' d fo := by
  cases h with
  | none => exact .none
  | one h1 h2 => exact .one (e _ _ h1) (At.mono e _ _ h2)
def RX (K : Fg) (M : List Addr) (H : Hp) (v : V) : Dx → Prop
  | .d d => At K (hid M H) v d
  | .loc k => ∃ p, M[k]? = some p ∧ v = .ref p
  | .scr ns => ∃ a, v = .ref a ∧ SqL K (hid M H) a (ns.map V.int)
  | .exc cls fo => ∃ a d, v = .ref a ∧ hid M H a = some (exk cls d a) ∧ XD K M H d fo
theorem RX.mono {K : Fg} {M : List Addr} {H H' : Hp} {v : V} (e : Same (hid M H) (hid M H')) : ∀ {x : Dx}, RX K M H v x → RX K M H' v x
  | .d d, h => At.mono e d v h
  | .loc _, h => h
  | .scr _, ⟨a, h1, h2⟩ => ⟨a, h1, e.seq h2⟩
  | .exc _ _, ⟨a, d, h1, h2, h3⟩ => ⟨a, d, h1, e _ _ h2, h3.up e⟩
abbrev Sto := List (List PyData)
abbrev En := List (Option Dx)
structure So (K : Fg) (M : List Addr) (s : Sto) (H : Hp) : Prop where
  nd : M.Nodup
  len : s.length = M.length
  at_ : ∀ (k : Nat) (p : Addr) (ds : List PyData), M[k]? = some p → s[k]? = some ds → ∃ vs, H p = some (.lst vs) ∧ AtAll K (hid M H) vs ds
theorem So.get {K : Fg} {M : List Addr} {s : Sto} {H : Hp} (h : So K M s H) {k : Nat} {ds : List PyData} (e : s[k]? = some ds) : ∃ p vs, M[k]? = some p ∧ H p = some (.lst vs) ∧ AtAll K (hid M H) vs ds := by
  have hk : k < M.length := by
    rw [← h.len]
    exact (List.getElem?_eq_some_iff.mp e).1
  obtain ⟨vs, h1, h2⟩ := h.at_ k M[k] ds (List.getElem?_eq_getElem hk) e
  exact ⟨M[k], vs, List.getElem?_eq_getElem hk, h1, h2⟩
theorem So.in_ {K : Fg} {M : List Addr} {s : Sto} {H : Hp} (h : So K M s H) {p : Addr} (e : p ∈ M) : ∃ vs, H p = some (.lst vs) := by
  obtain ⟨k, hk, rfl⟩ := List.getElem_of_mem e
  have hs : k < s.length := by rw [h.len]; exact hk
  obtain ⟨vs, h1, _⟩ := h.at_ k _ s[k] (List.getElem?_eq_getElem hk) (List.getElem?_eq_getElem hs)
  exact ⟨vs, h1⟩
theorem So.free {K : Fg} {M : List Addr} {s : Sto} {H : Hp} (h : So K M s H) {p : Addr} (e : H p = none) : p ∉ M := fun m => by
  obtain ⟨vs, q⟩ := h.in_ m
  rw [e] at q
  cases q
/-- a new object beside the store -/
theorem So.new {K : Fg} {M : List Addr} {s : Sto} {H : Hp} {p : Addr} {o : HO} (h : So K M s H) (hp : H p = none) : So K M s (upd H p o) :=
  ⟨h.nd, h.len, fun k q ds e1 e2 => by
    obtain ⟨vs, h1, h2⟩ := h.at_ k q ds e1 e2
    exact ⟨vs, by rw [upd_ne (ne_of_none h1 hp)]; exact h1, AtAll.mono (hid_new hp) ds vs h2⟩⟩
/-- a list of the store is written -/
theorem So.put {K : Fg} {M : List Addr} {s : Sto} {H : Hp} {k : Nat} {p : Addr} {ws : List V} {es : List PyData} (h : So K M s H) (hp : M[k]? = some p) (a : AtAll K (hid M H) ws es) : So K M (s.set k es) (upd H p (.lst ws)) := by
  have hm : p ∈ M := List.mem_of_getElem? hp
  refine ⟨h.nd, by rw [List.length_set]; exact h.len, fun j q ds e1 e2 => ?_⟩
  rw [hid_upd hm]
  by_cases c : j = k
  · subst c
    rw [hp] at e1; cases e1
    have hk : j < s.length := by
      have := (List.getElem?_eq_some_iff.mp hp).1
      rw [h.len]; exact this
    rw [List.getElem?_set_self hk] at e2
    cases e2
    exact ⟨ws, upd_same, a⟩
  · rw [List.getElem?_set_ne (Ne.symm c)] at e2
    obtain ⟨vs, h1, h2⟩ := h.at_ j q ds e1 e2
    have ne : q ≠ p := fun e => by
      subst e
      exact c (nd_ix h.nd e1 hp)
    exact ⟨vs, by rw [upd_ne ne]; exact h1, h2⟩
/-- a new list joins the store -/
theorem So.add {K : Fg} {M : List Addr} {s : Sto} {H : Hp} {p : Addr} {ws : List V} {es : List PyData} (h : So K M s H) (hp : H p = none) (a : AtAll K (hid M H) ws es) : So K (M ++ [p]) (s ++ [es]) (upd H p (.lst ws)) := by
  have hm := h.free hp
  have e0 : Same (hid M H) (hid (M ++ [p]) (upd H p (.lst ws))) := fun b o e => by
    obtain ⟨c, e⟩ := hid_some e
    have nb := ne_of_none e hp
    rw [hid_out (by simp [c, nb]), upd_ne nb]
    exact e
  refine ⟨?_, by simp [h.len], fun j q ds e1 e2 => ?_⟩
  · rw [List.nodup_append]
    exact ⟨h.nd, by simp, fun x hx y hy => by simp at hy; subst hy; exact fun e => hm (e ▸ hx)⟩
  · by_cases c : j < M.length
    · rw [List.getElem?_append_left c] at e1
      rw [List.getElem?_append_left (by rw [h.len]; exact c)] at e2
      obtain ⟨vs, h1, h2⟩ := h.at_ j q ds e1 e2
      exact ⟨vs, by rw [upd_ne (ne_of_none h1 hp)]; exact h1, AtAll.mono e0 ds vs h2⟩
    · have cj : j = M.length := by
        have := (List.getElem?_eq_some_iff.mp e1).1
        simp at this
        omega
      subst cj
      rw [List.getElem?_append_right (Nat.le_refl _), Nat.sub_self] at e1
      rw [List.getElem?_append_right (by rw [h.len]; exact Nat.le_refl _), h.len, Nat.sub_self] at e2
      cases e1; cases e2
      exact ⟨ws, upd_same, AtAll.mono e0 _ _ a⟩
/-- the last lists of the store are let go -/
theorem So.cut {K : Fg} {M N : List Addr} {s t : Sto} {H : Hp} (h : So K (M ++ N) (s ++ t) H) (hl : s.length = M.length) : So K M s H := by
  refine ⟨(List.nodup_append.mp h.nd).1, hl, fun j q ds e1 e2 => ?_⟩
  have hj := (List.getElem?_eq_some_iff.mp e1).1
  obtain ⟨vs, h1, h2⟩ := h.at_ j q ds (by rw [List.getElem?_append_left hj]; exact e1) (by rw [List.getElem?_append_left (by rw [hl]; exact hj)]; exact e2)
  exact ⟨vs, h1, AtAll.mono (hid_sub fun a m => List.mem_append_left _ m) ds vs h2⟩

structure RE (K : Fg) (M : List Addr) (H : Hp) (σ : L2.St) (ρ : En) : Prop where
  len : σ.length = ρ.length
  at_ : ∀ (i : Nat) (x : Dx), ρ[i]? = some (some x) → ∃ v, σ[i]? = some (some v) ∧ RX K M H v x
theorem RE.mono {K : Fg} {M : List Addr} {H H' : Hp} {σ : L2.St} {ρ : En} (e : Same (hid M H) (hid M H')) (h : RE K M H σ ρ) : RE K M H' σ ρ :=
  ⟨h.len, fun i x hx => let ⟨v, h1, h2⟩ := h.at_ i x hx; ⟨v, h1, h2.mono e⟩⟩
theorem RE.set {K : Fg} {M : List Addr} {H : Hp} {σ : L2.St} {ρ : En} {i : Nat} {v : V} {x : Dx} (h : RE K M H σ ρ) (r : RX K M H v x) : RE K M H (σ.set i (some v)) (ρ.set i (some x)) := by
  refine ⟨by simpa using h.len, fun j y hy => ?_⟩
  by_cases c : j = i
  · subst c
    by_cases hj : j < ρ.length
    · rw [List.getElem?_set_self hj] at hy
      cases hy
      exact ⟨v, List.getElem?_set_self (by rw [h.len]; exact hj), r⟩
    · rw [List.getElem?_eq_none (by simpa using hj)] at hy
      cases hy
  · rw [List.getElem?_set_ne (Ne.symm c)] at hy
    obtain ⟨w, h1, h2⟩ := h.at_ j y hy
    exact ⟨w, by rw [List.getElem?_set_ne (Ne.symm c)]; exact h1, h2⟩

/-! ## what an expression gives -/
def Okk (K : Fg) (M : List Addr) (s' : Sto) (x : Dx) (H : Hp) (Q : VK) : Prop := ∀ v H', Same (hid M H) (hid M H') → So K M s' H' → RX K M H' v x → Q v H'
def Ev (K : Fg) (te : TE) (ρ : En) (s : Sto) (x : Dx) (s' : Sto) : Prop := ∀ M σ H, So K M s H → RE K M H σ ρ → ∀ Q : VK, Okk K M s' x H Q → te σ H Q
/-- a new list: it stands behind the store -/
def EvN (K : Fg) (te : TE) (ρ : En) (s : Sto) (ds : List PyData) (s' : Sto) : Prop := ∀ M σ H, So K M s H → RE K M H σ ρ → ∀ Q : VK,
  (∀ p H', H p = none → Same (hid M H) (hid M H') → So K (M ++ [p]) (s' ++ [ds]) H' → So K M s' H' → Q (.ref p) H') → te σ H Q
inductive RXs (K : Fg) (M : List Addr) (H : Hp) : List V → List Dx → Prop
  | nil : RXs K M H [] []
  | cons {v vs x xs} : RX K M H v x → RXs K M H vs xs → RXs K M H (v :: vs) (x :: xs)
theorem RXs.mono {K : Fg} {M : List Addr} {H H' : Hp} (e : Same (hid M H) (hid M H')) : ∀ {vs : List V} {xs : List Dx}, RXs K M H vs xs → RXs K M H' vs xs
  | _, _, .nil => .nil
  | _, _, .cons h t => .cons (h.mono e) (t.mono e)
def Eva (K : Fg) (ta : TA) (ρ : En) (s : Sto) (xs : List Dx) (s' : Sto) : Prop := ∀ M σ H, So K M s H → RE K M H σ ρ → ∀ Q : List V → Hp → Prop,
  (∀ vs H', Same (hid M H) (hid M H') → So K M s' H' → RXs K M H' vs xs → Q vs H') → ta σ H Q
def EvT (K : Fg) (tt : TT) (ρ : En) (s : Sto) (b : Bool) (s' : Sto) : Prop := ∀ M σ H, So K M s H → RE K M H σ ρ → ∀ Q : Bool → Hp → Prop,
  (∀ H', Same (hid M H) (hid M H') → So K M s' H' → Q b H') → tt σ H Q
def Op2 (K : Fg) (r : R2) (x y : Dx) (s : Sto) (z : Dx) (s' : Sto) : Prop := ∀ M H v w, So K M s H → RX K M H v x → RX K M H w y → ∀ Q : VK, Okk K M s' z H Q → r v w H Q
/-- .. with a new list -/
def Op2N (K : Fg) (r : R2) (x y : Dx) (s : Sto) (ds : List PyData) (s' : Sto) : Prop := ∀ M H v w, So K M s H → RX K M H v x → RX K M H w y → ∀ Q : VK,
  (∀ p H', H p = none → Same (hid M H) (hid M H') → So K (M ++ [p]) (s' ++ [ds]) H' → So K M s' H' → Q (.ref p) H') → r v w H Q
def Op1 (K : Fg) (r : V → Hp → VK → Prop) (x : Dx) (s : Sto) (z : Dx) (s' : Sto) : Prop := ∀ M H v, So K M s H → RX K M H v x → ∀ Q : VK, Okk K M s' z H Q → r v H Q
/-- a call of a built-in, by values -/
def OpC (K : Fg) (r : List V → Hp → VK → Prop) (xs : List Dx) (s : Sto) (z : Dx) (s' : Sto) : Prop := ∀ M H vs, So K M s H → RXs K M H vs xs → ∀ Q : VK, Okk K M s' z H Q → r vs H Q

section
variable {K : Fg} {ρ : En} {s s1 s2 s3 : Sto} {x y z : Dx} {xs : List Dx} {ta tb te : TE} {tas : TA} {t u : TT} {r : R2} {b c : Bool} {i j k : Int}
theorem Okk.here {M : List Addr} {H : Hp} {Q : VK} {v : V} (q : Okk K M s x H Q) (S : So K M s H) (h : RX K M H v x) : Q v H := q v H (Same.refl _) S h
theorem Okk.step {M : List Addr} {H H1 : Hp} {Q : VK} (q : Okk K M s x H Q) (e : Same (hid M H) (hid M H1)) : Okk K M s x H1 Q := fun v H2 e2 => q v H2 (e.trans e2)
theorem ev_var {n : Nat} (h : ρ[n]? = some (some x)) : Ev K (tVar n) ρ s x s := fun M σ H S R Q q => by
  obtain ⟨v, h1, h2⟩ := R.at_ n x h
  exact ⟨v, h1, q.here S h2⟩
theorem ev_int : Ev K (tC (.int i)) ρ s (.d (.int i)) s := fun M σ H S R Q q => q.here S (.int i)
theorem ev_bl : Ev K (tC (.bl b)) ρ s (.d (.bool b)) s := fun M σ H S R Q q => q.here S (.bl b)
theorem ev_non : Ev K (tC .non) ρ s (.d .none) s := fun M σ H S R Q q => q.here S .non
theorem ev_str {w : Str} : Ev K (tC (.str w)) ρ s (.d (.str w)) s := fun M σ H S R Q q => q.here S (.str w)
theorem ev_k {v : V} {d : PyData} (h : ∀ H, At K H v d) : Ev K (tC v) ρ s (.d d) s := fun M σ H S R Q q => q.here S (h _)
theorem ev_op (ha : Ev K ta ρ s x s1) (hb : Ev K tb ρ s1 y s2) (hr : Op2 K r x y s2 z s3) : Ev K (tOp r ta tb) ρ s z s3 := fun M σ H S R Q q =>
  ha M σ H S R _ fun v H1 e1 S1 r1 => hb M σ H1 S1 (R.mono e1) _ fun w H2 e2 S2 r2 => hr M H2 v w S2 (r1.mono e2) r2 Q (q.step (e1.trans e2))
theorem evn_op {ds : List PyData} (ha : Ev K ta ρ s x s1) (hb : Ev K tb ρ s1 y s2) (hr : Op2N K r x y s2 ds s3) : EvN K (tOp r ta tb) ρ s ds s3 := fun M σ H S R Q q =>
  ha M σ H S R _ fun v H1 e1 S1 r1 => hb M σ H1 S1 (R.mono e1) _ fun w H2 e2 S2 r2 => hr M H2 v w S2 (r1.mono e2) r2 Q fun p H3 hp e3 S3 =>
    have e := e1.trans e2
    q p H3 (by
      cases hq : H p with
      | none => rfl
      | some o =>
        by_cases c : p ∈ M
        · exact absurd c (S2.free hp)
        · have := hid_some (e p o (by rw [hid_out c]; exact hq))
          rw [hp] at this; cases this.2) (e.trans e3) S3
theorem ev_un {r : V → Hp → VK → Prop} (ha : Ev K ta ρ s x s1) (hr : Op1 K r x s1 z s2) : Ev K (tUn r ta) ρ s z s2 := fun M σ H S R Q q =>
  ha M σ H S R _ fun v H1 e1 S1 r1 => hr M H1 v S1 r1 Q (q.step e1)
theorem ev_cb {r : List V → Hp → VK → Prop} (ha : Eva K tas ρ s xs s1) (hr : OpC K r xs s1 z s2) : Ev K (tCB r tas) ρ s z s2 := fun M σ H S R Q q =>
  ha M σ H S R _ fun v H1 e1 S1 r1 => hr M H1 v S1 r1 Q (q.step e1)
theorem eva_nil : Eva K tNil ρ s [] s := fun M σ H S R Q q => q [] H (Same.refl _) S .nil
theorem eva_cons (ha : Ev K ta ρ s x s1) (hr : Eva K tas ρ s1 xs s2) : Eva K (tCons ta tas) ρ s (x :: xs) s2 := fun M σ H S R Q q =>
  ha M σ H S R _ fun v H1 e1 S1 r1 => hr M σ H1 S1 (R.mono e1) _ fun vs H2 e2 S2 r2 => q _ H2 (e1.trans e2) S2 (.cons (r1.mono e2) r2)
theorem Ev.to {x' : Dx} {s' : Sto} (h : Ev K ta ρ s x s1) (e : x = x') (e2 : s1 = s') : Ev K ta ρ s x' s' := e ▸ e2 ▸ h
theorem Ev.is {x' : Dx} (h : Ev K ta ρ s x s1) (e : x = x') : Ev K ta ρ s x' s1 := e ▸ h
/-- the data of values -/
theorem rxs_data {M : List Addr} {H : Hp} : ∀ {vs : List V} {ds : List PyData}, RXs K M H vs (ds.map Dx.d) → AtAll K (hid M H) vs ds
  | _, [], .nil => .nil
  | _, _ :: _, .cons h t => .cons h (rxs_data t)
theorem so_drop {M : List Addr} {H : Hp} {p : Addr} {ds : List PyData} (S : So K (M ++ [p]) (s ++ [ds]) H) (hl : s.length = M.length) : At K (hid M H) (.ref p) (.list ds) := by
  obtain ⟨vs, h1, h2⟩ := S.at_ M.length p ds (by simp) (by rw [List.getElem?_append_right (by omega)]; simp [hl])
  have hp : p ∉ M := fun m => (List.nodup_append.mp S.nd).2.2 p m p (by simp) rfl
  exact .lst (by rw [hid_out hp]; exact h1) (AtAll.mono (hid_sub fun a m => List.mem_append_left _ m) ds vs h2)
theorem ev_new {ds : List PyData} (h : EvN K te ρ s ds s1) : Ev K te ρ s (.d (.list ds)) s1 := fun M σ H S R Q q =>
  h M σ H S R _ fun p H1 hp e S1 S2 => q _ H1 e S2 (so_drop S1 S2.len)
theorem ev_tup {ds : List PyData} (h : Eva K tas ρ s (ds.map Dx.d) s1) (hl : ds.length ≤ 100000) : Ev K (tTup tas) ρ s (.d (.tuple ds)) s1 := fun M σ H S R Q q =>
  h M σ H S R _ fun vs H1 e1 S1 r1 => by
    have a := rxs_data r1
    refine ⟨by rw [a.len]; exact Nat.le_trans hl (by decide), fun p hp => ?_⟩
    refine q _ _ (e1.trans (hid_new hp)) (S1.new hp) (At.tup (SqT.of ?_) (AtAll.mono (hid_new hp) _ _ a))
    rw [hid_out (S1.free hp)]
    exact upd_same
theorem evn_lst {ds : List PyData} (h : Eva K tas ρ s (ds.map Dx.d) s1) (hl : ds.length ≤ 100000) : EvN K (tLst tas) ρ s ds s1 := fun M σ H S R Q q =>
  h M σ H S R _ fun vs H1 e1 S1 r1 => by
    have a := rxs_data r1
    refine ⟨by rw [a.len]; exact Nat.le_trans hl (by decide), fun p hp => ?_⟩
    refine q p _ ?_ (e1.trans (hid_new hp)) (S1.add hp a) (S1.new hp)
    cases hq : H p with
    | none => rfl
    | some o =>
      have := hid_some (e1 p o (by rw [hid_out (S1.free hp)]; exact hq))
      rw [hp] at this
      cases this.2
theorem et_test (h : Ev K te ρ s (.d (.bool b)) s1) : EvT K (tTest te) ρ s b s1 := fun M σ H S R Q q => h M σ H S R _ fun v H1 e S1 r => by
  cases r
  exact ⟨b, rfl, q H1 e S1⟩
theorem et_B (h : Ev K te ρ s (.d (.bool b)) s1) : EvT K (tB te) ρ s b s1 := fun M σ H S R Q q => h M σ H S R _ fun v H1 e S1 r => by
  cases r
  exact ⟨b, rfl, q H1 e S1⟩
theorem et_not (h : EvT K t ρ s b s1) : EvT K (tNot t) ρ s (!b) s1 := fun M σ H S R Q q => h M σ H S R _ q
theorem et_and (h1 : EvT K t ρ s b s1) (h2 : b = true → EvT K u ρ s1 c s2) (h3 : b = false → s2 = s1) : EvT K (tAnd t u) ρ s (b && c) s2 := fun M σ H S R Q q => h1 M σ H S R _ fun H1 e S1 => by
  cases b with
  | true => exact h2 rfl M σ H1 S1 (R.mono e) Q fun H2 e2 => q H2 (e.trans e2)
  | false => exact q H1 e (h3 rfl ▸ S1)
theorem et_or (h1 : EvT K t ρ s b s1) (h2 : b = false → EvT K u ρ s1 c s2) (h3 : b = true → s2 = s1) : EvT K (tOr t u) ρ s (b || c) s2 := fun M σ H S R Q q => h1 M σ H S R _ fun H1 e S1 => by
  cases b with
  | false => exact h2 rfl M σ H1 S1 (R.mono e) Q fun H2 e2 => q H2 (e.trans e2)
  | true => exact q H1 e (h3 rfl ▸ S1)
theorem EvT.is (h : EvT K t ρ s b s1) (e : b = c) : EvT K t ρ s c s1 := e ▸ h
theorem ev_andV (h1 : Ev K ta ρ s (.d (.bool b)) s1) (h2 : b = true → Ev K tb ρ s1 (.d (.bool c)) s2) (h3 : b = false → s2 = s1) : Ev K (tAndV ta tb) ρ s (.d (.bool (b && c))) s2 := fun M σ H S R Q q => h1 M σ H S R _ fun v H1 e S1 r => by
  cases r
  refine ⟨b, rfl, ?_⟩
  cases b with
  | true => exact h2 rfl M σ H1 S1 (R.mono e) Q (q.step e)
  | false => exact q _ H1 e (h3 rfl ▸ S1) (.bl false)
theorem ev_orV (h1 : Ev K ta ρ s (.d (.bool b)) s1) (h2 : b = false → Ev K tb ρ s1 (.d (.bool c)) s2) (h3 : b = true → s2 = s1) : Ev K (tOrV ta tb) ρ s (.d (.bool (b || c))) s2 := fun M σ H S R Q q => h1 M σ H S R _ fun v H1 e S1 r => by
  cases r
  refine ⟨b, rfl, ?_⟩
  cases b with
  | false => exact h2 rfl M σ H1 S1 (R.mono e) Q (q.step e)
  | true => exact q _ H1 e (h3 rfl ▸ S1) (.bl true)
theorem ev_notV (h : Ev K ta ρ s (.d (.bool b)) s1) : Ev K (tNotV ta) ρ s (.d (.bool (!b))) s1 := fun M σ H S R Q q => h M σ H S R _ fun v H1 e S1 r => by
  cases r
  exact ⟨b, rfl, q _ H1 e S1 (.bl _)⟩
theorem ev_if (h : EvT K t ρ s b s1) (h1 : b = true → Ev K ta ρ s1 x s2) (h2 : b = false → Ev K tb ρ s1 x s2) : Ev K (tIf t ta tb) ρ s x s2 := fun M σ H S R Q q => h M σ H S R _ fun H1 e S1 => by
  cases b with
  | true => exact h1 rfl M σ H1 S1 (R.mono e) Q (q.step e)
  | false => exact h2 rfl M σ H1 S1 (R.mono e) Q (q.step e)

/-! ### operators by values -/
theorem o_I0i {g : Int → Int → Int} : Op2 K (rI0 fun i j => .int (g i j)) (.d (.int i)) (.d (.int j)) s (.d (.int (g i j))) s := fun M H v w S r1 r2 Q q => by
  cases r1; cases r2
  exact ⟨i, j, rfl, rfl, q.here S (.int _)⟩
theorem o_I0b {g : Int → Int → Bool} : Op2 K (rI0 fun i j => .bl (g i j)) (.d (.int i)) (.d (.int j)) s (.d (.bool (g i j))) s := fun M H v w S r1 r2 Q q => by
  cases r1; cases r2
  exact ⟨i, j, rfl, rfl, q.here S (.bl _)⟩
theorem o_I {C : Int → Int → Prop} {g : Int → Int → Int} (hc : C i j) : Op2 K (rI C fun i j => .int (g i j)) (.d (.int i)) (.d (.int j)) s (.d (.int (g i j))) s := fun M H v w S r1 r2 Q q => by
  cases r1; cases r2
  exact ⟨i, j, rfl, rfl, hc, q.here S (.int _)⟩
theorem o_U {g : Int → Int} : Op1 K (rU fun i => .int (g i)) (.d (.int i)) s (.d (.int (g i))) s := fun M H v S r Q q => by
  cases r
  exact ⟨i, rfl, q.here S (.int _)⟩
theorem o_eq {d e : PyData} (h1 : SeqAt.shaped d = true) (h2 : SeqAt.shaped e = true) : Op2 K (rEqD K) (.d d) (.d e) s (.d (.bool (PyData.eqv d e))) s := fun M H v w S r1 r2 Q q =>
  ⟨d, e, At.dp _ _ (At.mono hid_same _ _ r1), At.dp _ _ (At.mono hid_same _ _ r2), h1, h2, q.here S (.bl _)⟩
theorem o_ne {d e : PyData} (h1 : SeqAt.shaped d = true) (h2 : SeqAt.shaped e = true) : Op2 K (rNeD K) (.d d) (.d e) s (.d (.bool (!PyData.eqv d e))) s := fun M H v w S r1 r2 Q q =>
  ⟨d, e, At.dp _ _ (At.mono hid_same _ _ r1), At.dp _ _ (At.mono hid_same _ _ r2), h1, h2, q.here S (.bl _)⟩
theorem at_get {α β : Type} {R : α → β → Prop} {vs : List α} {ds : List β} (hl : vs.length = ds.length) (hg : ∀ (i : Nat) (d : β), ds[i]? = some d → ∃ v, vs[i]? = some v ∧ R v d) {n : Int} {d : β} (h : atI ds n = some d) : ∃ v, atI vs n = some v ∧ R v d := by
  unfold atI at h ⊢
  rw [hl]
  cases e : ixN ds.length n with
  | none => rw [e] at h; cases h
  | some j =>
    rw [e] at h
    exact hg j d h
/-- x[n] -/
theorem o_ixT {ds : List PyData} {d : PyData} (h : atI ds i = some d) : Op2 K (rIx K) (.d (.tuple ds)) (.d (.int i)) s (.d d) s := fun M H v w S r1 r2 Q q => by
  cases r1 with
  | tup h1 h2 =>
    cases r2
    obtain ⟨v, e, r⟩ := at_get h2.len (fun _ _ e => h2.get e) h
    exact .inr (.inl ⟨_, _, i, v, rfl, rfl, same_t hid_same h1, e, q.here S r⟩)
theorem o_ixL {ds : List PyData} {d : PyData} (h : atI ds i = some d) : Op2 K (rIx K) (.d (.list ds)) (.d (.int i)) s (.d d) s := fun M H v w S r1 r2 Q q => by
  cases r1 with
  | lst h1 h2 =>
    cases r2
    obtain ⟨v, e, r⟩ := at_get h2.len (fun _ _ e => h2.get e) h
    exact .inl ⟨_, _, i, v, rfl, rfl, SqL.of (hid_some h1).2, e, q.here S r⟩
theorem o_ixM {k : Nat} {ds : List PyData} {d : PyData} (hk : s[k]? = some ds) (h : atI ds i = some d) : Op2 K (rIx K) (.loc k) (.d (.int i)) s (.d d) s := fun M H v w S r1 r2 Q q => by
  obtain ⟨p, e1, rfl⟩ := r1
  obtain ⟨p', vs, e2, h1, h2⟩ := S.get hk
  rw [e1] at e2; cases e2
  cases r2
  obtain ⟨v, e, r⟩ := at_get h2.len (fun _ _ e => h2.get e) h
  exact .inl ⟨_, _, i, v, rfl, rfl, SqL.of h1, e, q.here S r⟩
theorem o_ixS {ns : List Int} {n : Int} (h : atI ns i = some n) : Op2 K (rIx K) (.scr ns) (.d (.int i)) s (.d (.int n)) s := fun M H v w S r1 r2 Q q => by
  obtain ⟨a, rfl, h1⟩ := r1
  cases r2
  have e : atI (ns.map V.int) i = some (.int n) := by
    obtain ⟨v, e, r⟩ := at_get (R := fun v d => v = V.int d) (vs := ns.map V.int) (by simp) (fun j d e => ⟨_, by rw [List.getElem?_map, e]; rfl, rfl⟩) h
    rw [e, r]
  refine .inl ⟨_, _, i, _, rfl, rfl, ?_, e, q.here S (.int n)⟩
  rcases h1 with (h1 | ⟨o, h1⟩) | h1
  · exact .inl (.inl (hid_some h1).2)
  · exact .inl (.inr ⟨o, (hid_some h1).2⟩)
  · exact .inr h1
end
end Pw
namespace Pw
open PySem L2
section
variable {K : Fg} {ρ : En} {s s1 s2 s3 : Sto} {x y z : Dx} {xs : List Dx} {ta tb te : TE} {tas : TA} {t u : TT} {r r' : R2} {b c : Bool} {i j k : Int} {X : Cx}

/-! ### one rule an operator, whatever the kinds of its operands -/
structure CM (i j : Int) : Prop where
  ok : IntMulOk i j
theorem cm_ok {i j : Int} (h : CM i j) : IntMulOk i j := h.ok
theorem cm_mk {i j : Int} (h : CMul i j) : CM i j := ⟨h.ok⟩
theorem cm_big {i j : Int} {n m : Nat} (h1 : i.natAbs < 2 ^ n) (h2 : j.natAbs < 2 ^ m) (hn : n ≤ 60000000) (hm : m ≤ 60000000) : CM i j := ⟨by
  intro q
  rw [Bool.and_eq_true] at q
  have z2 := q.2
  unfold Builtin.Int.intTooBig at z2
  have z3 := of_decide_eq_true z2
  rw [show bitsLine = 134217728 by decide] at z3
  have a := PyProof.Rows.intBits_le h1
  have b := PyProof.Rows.intBits_le h2
  omega⟩
structure CF (i j : Int) : Prop where
  nz : j ≠ 0
  sm : j.natAbs.log2 < 9000
theorem o_inl {s' : Sto} (h : Op2 K r x y s z s') : Op2 K (fun x y H Q => r x y H Q ∨ r' x y H Q) x y s z s' := fun M H v w S r1 r2 Q q => .inl (h M H v w S r1 r2 Q q)
theorem o_inr {s' : Sto} (h : Op2 K r' x y s z s') : Op2 K (fun x y H Q => r x y H Q ∨ r' x y H Q) x y s z s' := fun M H v w S r1 r2 Q q => .inr (h M H v w S r1 r2 Q q)
def rAddI : R2 := rI0 fun i j => .int (i + j)
def rAddS : R2 := fun x y H Q => ∃ i j, x = .str i ∧ y = .str j ∧ i.length + j.length ≤ sizeLine ∧ Q (.str (i ++ j)) H
def rPlus (K : Fg) : R2 := fun x y H Q => rAddI x y H Q ∨ rAddS x y H Q ∨ rCat x y H Q ∨ rCatA K x y H Q
theorem op_plus : OpR X (binaryOp .Add) (rPlus X.K) := op_add.or (op_add_str.or (op_cat.or op_catA))
def rMulI : R2 := rI CM fun i j => .int (i * j)
theorem op_mulA : OpR X (binaryOp .Mult) rMulI := opI fun _ _ _ _ _ _ _ hc q => PyProof.Rows.mul_int q (cm_ok hc)
def rTimes : R2 := fun x y H Q => rMulI x y H Q ∨ rRep x y H Q
theorem op_times : OpR X (binaryOp .Mult) rTimes := op_mulA.or op_rep
def rFdiv : R2 := rI CF fun i j => .int (i.fdiv j)
theorem op_fdivA : OpR X (binaryOp .FloorDiv) rFdiv := opI fun _ j _ _ _ _ _ hc q => PyProof.Rows.floordiv_int hc.nz q (.inl (PyProof.noPylong_of_log2 hc.sm))
def rMod : R2 := rI (fun _ j => j ≠ 0) fun i j => .int (i.fmod j)
theorem op_modA : OpR X (binaryOp .Mod) rMod := op_modN
def rMinus : R2 := rI0 fun i j => .int (i - j)
theorem op_minus : OpR X (binaryOp .Sub) rMinus := op_sub
def rPow : R2 := rI CPow fun i j => .int (i ^ j.toNat)
theorem op_powA : OpR X (binaryOp .Pow) rPow := op_pow
def rLt : R2 := rI0 fun i j => .bl (decide (i < j))
def rLe : R2 := rI0 fun i j => .bl (decide (i ≤ j))
def rGt : R2 := rI0 fun i j => .bl (decide (j < i))
def rGe : R2 := rI0 fun i j => .bl (decide (j ≤ i))
theorem op_ltA : OpR X (compareOp .Lt) rLt := op_lt
theorem op_leA : OpR X (compareOp .LtE) rLe := op_le
theorem op_gtA : OpR X (compareOp .Gt) rGt := op_gt
theorem op_geA : OpR X (compareOp .GtE) rGe := op_ge
def rNeg : V → Hp → VK → Prop := rU fun i => .int (-i)
theorem un_negA : UnR X (unaryOp .USub) rNeg := un_neg
def rIsN : R2 := fun x y H Q => y = .non ∧ Q (.bl (decide (x = .non))) H
def rNotN : R2 := fun x y H Q => y = .non ∧ Q (.bl (!decide (x = .non))) H
theorem op_isA : OpR X (compareOp .Is) (fun x y H Q => rIsN x y H Q ∨ ∃ a b : Bool, x = .bl a ∧ y = .bl b ∧ Q (.bl (decide (a = b))) H) := op_isN.or op_is_bl
theorem op_isnotA : OpR X (compareOp .IsNot) (fun x y H Q => rNotN x y H Q ∨ ∃ a b : Bool, x = .bl a ∧ y = .bl b ∧ Q (.bl (!decide (a = b))) H) := op_notN.or op_isnot_bl
def rIs : R2 := fun x y H Q => rIsN x y H Q ∨ ∃ a b : Bool, x = .bl a ∧ y = .bl b ∧ Q (.bl (decide (a = b))) H
def rIsnt : R2 := fun x y H Q => rNotN x y H Q ∨ ∃ a b : Bool, x = .bl a ∧ y = .bl b ∧ Q (.bl (!decide (a = b))) H
theorem op_is : OpR X (compareOp .Is) rIs := op_isA
theorem op_isnt : OpR X (compareOp .IsNot) rIsnt := op_isnotA

theorem o_add : Op2 K (rPlus K) (.d (.int i)) (.d (.int j)) s (.d (.int (i + j))) s := fun M H v w S r1 r2 Q q => .inl (o_I0i (g := fun i j => i + j) M H v w S r1 r2 Q q)
theorem o_addS {a b : Str} (h : a.length + b.length ≤ 16000000) : Op2 K (rPlus K) (.d (.str a)) (.d (.str b)) s (.d (.str (a ++ b))) s := fun M H v w S r1 r2 Q q => by
  cases r1; cases r2
  exact .inr (.inl ⟨a, b, rfl, rfl, Nat.le_trans h (by decide), q.here S (.str _)⟩)
theorem o_cat {ds es : List PyData} (h : ds.length + es.length ≤ 1000000) : Op2N K (rPlus K) (.d (.list ds)) (.d (.list es)) s (ds ++ es) s := fun M H v w S r1 r2 Q q => by
  cases r1 with
  | lst h1 a1 =>
    cases r2 with
    | lst h2 a2 =>
      refine .inr (.inr (.inl ⟨_, _, _, _, rfl, rfl, (hid_some h1).2, (hid_some h2).2, ?_, fun p hp => ?_⟩))
      · rw [a1.len, a2.len]; exact Nat.le_trans h (by decide)
      · exact q p _ hp (hid_new hp) (S.add hp (a1.append a2)) (S.new hp)
theorem o_catT {ds es : List PyData} (h : ds.length + es.length ≤ 1000000) : Op2 K (rPlus K) (.d (.tuple ds)) (.d (.tuple es)) s (.d (.tuple (ds ++ es))) s := fun M H v w S r1 r2 Q q => by
  cases r1 with
  | @tup a xs _ h1 a1 =>
    cases r2 with
    | @tup a' ys _ h2 a2 =>
      refine .inr (.inr (.inr ⟨_, _, _, _, rfl, rfl, same_t hid_same h1, same_t hid_same h2, ?_, fun e => ?_, fun e e' => ?_, fun e e' p hp => ?_⟩))
      · rw [a1.len, a2.len]; exact Nat.le_trans h (by decide)
      · subst e
        cases a1
        exact q.here S (At.tup h2 a2)
      · subst e'
        cases a2
        rw [List.append_nil] at q
        exact q.here S (At.tup h1 a1)
      · refine q _ _ (hid_new hp) (S.new hp) (At.tup (SqT.of ?_) (AtAll.mono (hid_new hp) _ _ (a1.append a2)))
        rw [hid_out (S.free hp)]
        exact upd_same
theorem o_mul (h : CM i j) : Op2 K rTimes (.d (.int i)) (.d (.int j)) s (.d (.int (i * j))) s := fun M H v w S r1 r2 Q q => .inl (o_I (C := CM) (g := fun i j => i * j) h M H v w S r1 r2 Q q)
theorem AtAll.rep {K : Fg} {H : Hp} {vs : List V} {ds : List PyData} (a : AtAll K H vs ds) : ∀ n, AtAll K H (List.replicate n vs).flatten (List.replicate n ds).flatten
  | 0 => .nil
  | n + 1 => by
    rw [List.replicate_succ, List.replicate_succ, List.flatten_cons, List.flatten_cons]
    exact a.append (AtAll.rep a n)
theorem o_rep {ds : List PyData} {n : Nat} (h : ds.length * n ≤ 1000000) (h2 : n ≤ 1000000) : Op2N K rTimes (.d (.list ds)) (.d (.int (n : Int))) s (List.replicate n ds).flatten s := fun M H v w S r1 r2 Q q => by
  cases r1 with
  | lst h1 a1 =>
    cases r2
    refine .inr ⟨_, (n : Int), _, rfl, rfl, (hid_some h1).2, by omega, by omega, ?_, fun p hp => ?_⟩
    · rw [a1.len, Int.toNat_natCast]; exact Nat.le_trans h (by decide)
    · rw [Int.toNat_natCast]
      exact q p _ hp (hid_new hp) (S.add hp (a1.rep n)) (S.new hp)
theorem o_fdiv (h : CF i j) : Op2 K rFdiv (.d (.int i)) (.d (.int j)) s (.d (.int (i.fdiv j))) s := o_I h
theorem o_mod (h : j ≠ 0) : Op2 K rMod (.d (.int i)) (.d (.int j)) s (.d (.int (i.fmod j))) s := o_I (C := fun _ j => j ≠ 0) h
theorem o_minus : Op2 K rMinus (.d (.int i)) (.d (.int j)) s (.d (.int (i - j))) s := o_I0i (g := fun i j => i - j)
theorem o_pow (h : CPow i j) : Op2 K rPow (.d (.int i)) (.d (.int j)) s (.d (.int (i ^ j.toNat))) s := o_I h
theorem o_lt : Op2 K rLt (.d (.int i)) (.d (.int j)) s (.d (.bool (decide (i < j)))) s := o_I0b (g := fun i j => decide (i < j))
theorem o_le : Op2 K rLe (.d (.int i)) (.d (.int j)) s (.d (.bool (decide (i ≤ j)))) s := o_I0b (g := fun i j => decide (i ≤ j))
theorem o_gt : Op2 K rGt (.d (.int i)) (.d (.int j)) s (.d (.bool (decide (j < i)))) s := o_I0b (g := fun i j => decide (j < i))
theorem o_ge : Op2 K rGe (.d (.int i)) (.d (.int j)) s (.d (.bool (decide (j ≤ i)))) s := o_I0b (g := fun i j => decide (j ≤ i))
theorem o_neg : Op1 K rNeg (.d (.int i)) s (.d (.int (-i))) s := o_U (g := fun i => -i)
def isNo : PyData → Bool
  | .none => true
  | _ => false
theorem at_non {H : Hp} {v : V} {d : PyData} (h : At K H v d) : decide (v = .non) = isNo d := by
  cases h <;> rfl
theorem o_isN {d : PyData} : Op2 K rIs (.d d) (.d .none) s (.d (.bool (isNo d))) s := fun M H v w S r1 r2 Q q => by
  cases r2
  refine .inl ⟨rfl, ?_⟩
  rw [at_non r1]
  exact q.here S (.bl _)
theorem o_isntN {d : PyData} : Op2 K rIsnt (.d d) (.d .none) s (.d (.bool (!isNo d))) s := fun M H v w S r1 r2 Q q => by
  cases r2
  refine .inl ⟨rfl, ?_⟩
  rw [at_non r1]
  exact q.here S (.bl _)
theorem o_isB {a b : Bool} : Op2 K rIs (.d (.bool a)) (.d (.bool b)) s (.d (.bool (decide (a = b)))) s := fun M H v w S r1 r2 Q q => by
  cases r1; cases r2
  exact .inr ⟨a, b, rfl, rfl, q.here S (.bl _)⟩
theorem o_isntB {a b : Bool} : Op2 K rIsnt (.d (.bool a)) (.d (.bool b)) s (.d (.bool (!decide (a = b)))) s := fun M H v w S r1 r2 Q q => by
  cases r1; cases r2
  exact .inr ⟨a, b, rfl, rfl, q.here S (.bl _)⟩

/-! ### built-ins -/
def rAbs : List V → Hp → VK → Prop := fun xs H Q => ∃ i, xs = [.int i] ∧ Q (.int (if i < 0 then -i else i)) H
theorem cb_abs : CallR X (.builtin "abs") rAbs := call_abs
theorem o_abs : OpC K rAbs [.d (.int i)] s (.d (.int (if i < 0 then -i else i))) s := fun M H vs S r Q q => by
  cases r with
  | cons h t =>
    cases t
    cases h
    exact ⟨i, rfl, q.here S (.int _)⟩
def rInt : List V → Hp → VK → Prop := fun xs H Q => (∃ i, xs = [.int i] ∧ Q (.int i) H) ∨ ∃ k, xs = [.bl k] ∧ Q (.int (if k then 1 else 0)) H
theorem cb_int : CallR X (.type "int") rInt := call_int1
theorem o_intB : OpC K rInt [.d (.bool b)] s (.d (.int (if b then 1 else 0))) s := fun M H vs S r Q q => by
  cases r with
  | cons h t =>
    cases t
    cases h
    exact .inr ⟨b, rfl, q.here S (.int _)⟩
def rMin2 : List V → Hp → VK → Prop := fun xs H Q => ∃ i j, xs = [.int i, .int j] ∧ Q (.int (if j < i then j else i)) H
theorem cb_min2 (hc : X.calm = true) : CallR X (.builtin "min") rMin2 := call_min2 hc
theorem o_min2 : OpC K rMin2 [.d (.int i), .d (.int j)] s (.d (.int (if j < i then j else i))) s := fun M H vs S r Q q => by
  cases r with
  | cons h t =>
    cases t with
    | cons h2 t =>
      cases t
      cases h; cases h2
      exact ⟨i, j, rfl, q.here S (.int _)⟩
def rMax2' : List V → Hp → VK → Prop := fun xs H Q => ∃ i j, xs = [.int i, .int j] ∧ Q (.int (if j > i then j else i)) H
theorem cb_max2 (hc : X.calm = true) : CallR X (.builtin "max") rMax2' := call_max2 hc
theorem o_max2 : OpC K rMax2' [.d (.int i), .d (.int j)] s (.d (.int (if j > i then j else i))) s := fun M H vs S r Q q => by
  cases r with
  | cons h t =>
    cases t with
    | cons h2 t =>
      cases t
      cases h; cases h2
      exact ⟨i, j, rfl, q.here S (.int _)⟩
def rLen (K : Fg) : List V → Hp → VK → Prop := fun xs H Q => ∃ x n, xs = [x] ∧ LenV K x H n ∧ Q (.int (n : Nat)) H
theorem cb_len : CallR X (.builtin "len") (rLen X.K) := call_len
theorem o_lenL {ds : List PyData} : OpC K (rLen K) [.d (.list ds)] s (.d (.int (ds.length : Nat))) s := fun M H vs S r Q q => by
  cases r with
  | cons h t =>
    cases t
    cases h with
    | lst h a => exact ⟨_, _, rfl, .inl ⟨_, SqL.of (hid_some h).2, rfl⟩, by rw [a.len]; exact q.here S (.int _)⟩
theorem o_lenT {ds : List PyData} : OpC K (rLen K) [.d (.tuple ds)] s (.d (.int (ds.length : Nat))) s := fun M H vs S r Q q => by
  cases r with
  | cons h t =>
    cases t
    cases h with
    | tup h a => exact ⟨_, _, rfl, .inr ⟨_, same_t hid_same h, rfl⟩, by rw [a.len]; exact q.here S (.int _)⟩
theorem o_lenS {w : Str} (hw : w.length ≤ 16000000) : OpC K (rLen K) [.d (.str w)] s (.d (.int (w.length : Nat))) s := fun M H vs S r Q q => by
  cases r with
  | cons h t =>
    cases t
    cases h
    exact ⟨_, _, rfl, ⟨Nat.le_trans hw (by decide), rfl⟩, q.here S (.int _)⟩
theorem o_lenM {n : Nat} {ds : List PyData} (hk : s[n]? = some ds) : OpC K (rLen K) [.loc n] s (.d (.int (ds.length : Nat))) s := fun M H vs S r Q q => by
  cases r with
  | cons h t =>
    cases t
    obtain ⟨p, e1, rfl⟩ := h
    obtain ⟨p', ws, e2, h1, h2⟩ := S.get hk
    rw [e1] at e2; cases e2
    exact ⟨_, _, rfl, .inl ⟨_, SqL.of h1, rfl⟩, by rw [h2.len]; exact q.here S (.int _)⟩
theorem o_lenC {ns : List Int} : OpC K (rLen K) [.scr ns] s (.d (.int (ns.length : Nat))) s := fun M H vs S r Q q => by
  cases r with
  | cons h t =>
    cases t
    obtain ⟨a, rfl, h1⟩ := h
    refine ⟨_, _, rfl, .inl ⟨ns.map V.int, ?_, rfl⟩, by rw [List.length_map]; exact q.here S (.int _)⟩
    rcases h1 with (h1 | ⟨o, h1⟩) | h1
    · exact .inl (.inl (hid_some h1).2)
    · exact .inl (.inr ⟨o, (hid_some h1).2⟩)
    · exact .inr h1
theorem cb_all (hc : X.calm = true) : CallR X (.builtin "all") (rAll X.K) := cr_all hc
theorem o_all {bs : List Bool} : OpC K (rAll K) [.d (.list (bs.map PyData.bool))] s (.d (.bool (bs.all id))) s := fun M H vs S r Q q => by
  cases r with
  | cons h t =>
    cases t
    cases h with
    | lst h a =>
      have e := AtAll.bls a
      subst e
      exact ⟨_, bs, rfl, SqL.of (hid_some h).2, q.here S (.bl _)⟩
theorem o_gcd : OpC K rGcd [.d (.int i), .d (.int j)] s (.d (.int ((Nat.gcd i.natAbs j.natAbs : Nat) : Int))) s := fun M H vs S r Q q => by
  cases r with
  | cons h t =>
    cases t with
    | cons h2 t =>
      cases t
      cases h; cases h2
      exact ⟨i, j, rfl, q.here S (.int _)⟩
/-- list(t), list(xs): a new list -/
def rListOf (K : Fg) : List V → Hp → VK → Prop := fun xs H Q => ∃ p ys, xs = [.ref p] ∧ (SqL K H p ys ∨ SqT K H p ys) ∧ ∀ l, H l = none → Q (.ref l) (upd H l (.lst ys))
theorem cb_list : CallR X (.type "list") (rListOf X.K) := call_list_of
def OpCN (K : Fg) (r : List V → Hp → VK → Prop) (xs : List Dx) (s : Sto) (ds : List PyData) (s' : Sto) : Prop := ∀ M H vs, So K M s H → RXs K M H vs xs → ∀ Q : VK,
  (∀ p H', H p = none → Same (hid M H) (hid M H') → So K (M ++ [p]) (s' ++ [ds]) H' → So K M s' H' → Q (.ref p) H') → r vs H Q
theorem evn_cb {r : List V → Hp → VK → Prop} {ds : List PyData} (ha : Eva K tas ρ s xs s1) (hr : OpCN K r xs s1 ds s2) : EvN K (tCB r tas) ρ s ds s2 := fun M σ H S R Q q =>
  ha M σ H S R _ fun v H1 e1 S1 r1 => hr M H1 v S1 r1 Q fun p H2 hp e2 => q p H2 (by
    cases hq : H p with
    | none => rfl
    | some o =>
      have := hid_some (e1 p o (by rw [hid_out (S1.free hp)]; exact hq))
      rw [hp] at this; cases this.2) (e1.trans e2)
theorem o_listT {ds : List PyData} : OpCN K (rListOf K) [.d (.tuple ds)] s ds s := fun M H vs S r Q q => by
  cases r with
  | cons h t =>
    cases t
    cases h with
    | tup h a => exact ⟨_, _, rfl, .inr (same_t hid_same h), fun p hp => q p _ hp (hid_new hp) (S.add hp a) (S.new hp)⟩
theorem o_listL {ds : List PyData} : OpCN K (rListOf K) [.d (.list ds)] s ds s := fun M H vs S r Q q => by
  cases r with
  | cons h t =>
    cases t
    cases h with
    | lst h a => exact ⟨_, _, rfl, .inl (SqL.of (hid_some h).2), fun p hp => q p _ hp (hid_new hp) (S.add hp a) (S.new hp)⟩
def rTupOf (K : Fg) : List V → Hp → VK → Prop := fun xs H Q => ∃ p ys, xs = [.ref p] ∧ ((SqL K H p ys ∧ ∀ l, H l = none → Q (.ref l) (upd H l (.tup ys))) ∨ (SqT K H p ys ∧ Q (.ref p) H))
theorem cb_tup : CallR X (.type "tuple") (rTupOf X.K) := call_tuple_of
theorem o_tupM {n : Nat} {ds : List PyData} (hk : s[n]? = some ds) : OpC K (rTupOf K) [.loc n] s (.d (.tuple ds)) s := fun M H vs S r Q q => by
  cases r with
  | cons h t =>
    cases t
    obtain ⟨p, e1, rfl⟩ := h
    obtain ⟨p', ws, e2, h1, h2⟩ := S.get hk
    rw [e1] at e2; cases e2
    refine ⟨_, _, rfl, .inl ⟨SqL.of h1, fun l hl => ?_⟩⟩
    refine q _ _ (hid_new hl) (S.new hl) (At.tup (SqT.of ?_) (AtAll.mono (hid_new hl) _ _ h2))
    rw [hid_out (S.free hl)]
    exact upd_same

/-! ### isinstance -/
def tyN : PyData → String
  | .none => "NoneType" | .bool _ => "bool" | .int _ => "int" | .str _ => "str" | .list _ => "list" | .tuple _ => "tuple" | .dict _ => "dict"
theorem at_ty {M : List Addr} {H : Hp} {v : V} {d : PyData} (h : At K (hid M H) v d) : TyX K H v (.type (tyN d)) := by
  cases h with
  | non => exact .base .non
  | bl b => exact .base (.bl b)
  | int i => exact .base (.int i)
  | str x => exact .base (.str x)
  | lst h a => exact .base (.lst (hid_some h).2)
  | tup h a =>
    rcases h with (h | ⟨o, h⟩) | ⟨o, its, n, hk, hc, _⟩
    · exact .base (.tup (hid_some h).2)
    · exact .fTuple (hid_some h).2
    · exact .kTuple hk hc
theorem ev_isi {d : PyData} {T : String} (h : Ev K te ρ s (.d d) s1) (e : kitB (tyN d) T = some b) : Ev K (tCB (rIsi K) (tCons te (tCons (tC (.ty T)) tNil))) ρ s (.d (.bool b)) s1 := fun M σ H S R Q q =>
  h M σ H S R _ fun v H1 e1 S1 r1 => ⟨v, .ty T, _, _, b, rfl, .ty T, at_ty r1, kit_ty e, q _ H1 e1 S1 (.bl b)⟩
theorem ev_isi2 {d : PyData} {T U : String} {b1 b2 : Bool} (h : Ev K te ρ s (.d d) s1) (e1 : kitB (tyN d) T = some b1) (e2 : kitB (tyN d) U = some b2) :
    Ev K (tCB (rIsiT K) (tCons te (tCons (tTup (tCons (tC (.ty T)) (tCons (tC (.ty U)) tNil))) tNil))) ρ s (.d (.bool (b1 || b2))) s1 := fun M σ H S R Q q =>
  h M σ H S R _ fun v H1 f1 S1 r1 => ⟨by show 2 ≤ sizeLine; decide, fun p hp => by
    refine ⟨v, p, _, .type (tyN d), [.type T, .type U], b1 || b2, rfl, upd_same, .cons (.ty T) (.cons (.ty U) .nil), at_ty (M := M) (At.mono (hid_new hp) d v r1), ?_, ?_⟩
    · refine kitAny_cons (kit_ty e1) (fun z => ?_) (fun z => by rw [z]; rfl)
      subst z
      refine kitAny_cons (kit_ty e2) (fun z => ?_) (fun z => by rw [z]; rfl)
      rw [z]
      exact kitAny_nil
    · exact q _ _ (f1.trans (hid_new hp)) (S1.new hp) (.bl _)⟩

/-! ### repr of data -/
def rRepr (K : Fg) : List V → Hp → VK → Prop := fun xs H Q => ∃ x d, xs = [x] ∧ Dp K H x d ∧ PyData.showable d = true ∧ PyData.hasDict d = false ∧ d.depth ≤ 60 ∧ d.shown.length ≤ sizeLine ∧ Q (.str d.shown) H
end
end Pw
namespace Pw
open PySem L2
section
variable {K : Fg} {ρ ρ' : En} {s s1 s2 s3 : Sto} {x y z : Dx} {xs : List Dx} {ta tb te : TE} {tas : TA} {t u : TT} {r r' : R2} {b c : Bool} {i j k : Int} {X : Cx}

/-! ## statements: a frame that began with the store's lists M0 in the heap H0; F: what is kept besides -/
abbrev Kp := List (V × PyData)
structure Rl (K : Fg) (M0 : List Addr) (H0 : Hp) (F : Kp) (M : List Addr) (s : Sto) (ρ : En) (σ : L2.St) (H : Hp) : Prop where
  ext : ∃ N, M = M0 ++ N ∧ ∀ p ∈ N, H0 p = none
  same : Same (hid M0 H0) (hid M0 H)
  so : So K M s H
  re : RE K M H σ ρ
  kp : ∀ q ∈ F, At K (hid M H) q.1 q.2
def W (K : Fg) (M0 : List Addr) (H0 : Hp) (F : Kp) (P : L2.St → Hp → Prop) (ρ : En) (s : Sto) : Prop := ∀ M σ H, Rl K M0 H0 F M s ρ σ H → P σ H
variable {M0 M : List Addr} {H0 H H1 : Hp} {F : Kp} {D : Ends} {σ : L2.St} {P : L2.St → Hp → Prop} {tu tw : TS} {n m : Nat}
theorem Rl.sub (h : Rl K M0 H0 F M s ρ σ H) (e : Same (hid M H) (hid M H1)) : Same (hid M0 H0) (hid M0 H1) := fun a o h1 => by
  obtain ⟨N, hM, hN⟩ := h.ext
  have h2 := h.same a o h1
  obtain ⟨c, h3⟩ := hid_some h2
  obtain ⟨_, h0⟩ := hid_some h1
  have c2 : a ∉ M := fun m => by
    rw [hM] at m
    rcases List.mem_append.mp m with m | m
    · exact c m
    · rw [hN a m] at h0; cases h0
  have h4 := e a o (by rw [hid_out c2]; exact h3)
  rw [hid_out c]
  exact (hid_some h4).2
theorem Rl.step (h : Rl K M0 H0 F M s ρ σ H) (e : Same (hid M H) (hid M H1)) (S : So K M s1 H1) : Rl K M0 H0 F M s1 ρ σ H1 :=
  ⟨h.ext, h.sub e, S, h.re.mono e, fun q hq => At.mono e _ _ (h.kp q hq)⟩
theorem Rl.set {v : V} (h : Rl K M0 H0 F M s ρ σ H) (r : RX K M H v x) : Rl K M0 H0 F M s (ρ.set n (some x)) (σ.set n (some v)) H :=
  ⟨h.ext, h.same, h.so, h.re.set r, h.kp⟩
theorem Rl.old (h : Rl K M0 H0 F M s ρ σ H) {p : Addr} (hp : H p = none) : H0 p = none := by
  cases e : H0 p with
  | none => rfl
  | some o =>
    obtain ⟨N, hM, _⟩ := h.ext
    have c : p ∉ M0 := fun m => h.so.free hp (by rw [hM]; exact List.mem_append_left _ m)
    have := h.same p o (by rw [hid_out c]; exact e)
    rw [(hid_some this).2] at hp
    cases hp
theorem RX.up {M' : List Addr} {H' : Hp} {v : V} (e : Same (hid M H) (hid M' H')) (hM : ∀ (k : Nat) p, M[k]? = some p → M'[k]? = some p) : ∀ {x : Dx}, RX K M H v x → RX K M' H' v x
  | .d d, h => At.mono e d v h
  | .loc _, ⟨p, h1, h2⟩ => ⟨p, hM _ p h1, h2⟩
  | .scr _, ⟨a, h1, h2⟩ => ⟨a, h1, e.seq h2⟩
  | .exc _ _, ⟨a, d, h1, h2, h3⟩ => ⟨a, d, h1, e _ _ h2, h3.up e⟩
theorem get_app {α : Type} {M N : List α} (k : Nat) (p : α) (h : M[k]? = some p) : (M ++ N)[k]? = some p := by
  rw [List.getElem?_append_left (List.getElem?_eq_some_iff.mp h).1]
  exact h
/-- a new list joins -/
theorem Rl.add {p : Addr} {ds : List PyData} (h : Rl K M0 H0 F M s ρ σ H) (hp : H p = none) (e : Same (hid M H) (hid M H1)) (S : So K (M ++ [p]) (s1 ++ [ds]) H1) : Rl K M0 H0 F (M ++ [p]) (s1 ++ [ds]) ρ σ H1 := by
  obtain ⟨N, hM, hN⟩ := h.ext
  have e2 : Same (hid M H) (hid (M ++ [p]) H1) := fun a o h1 => by
    obtain ⟨c, h2⟩ := hid_some h1
    rw [hid_out (by simp [c, ne_of_none h2 hp])]
    exact (hid_some (e a o h1)).2
  refine ⟨⟨N ++ [p], by rw [hM, List.append_assoc], fun q hq => ?_⟩, h.sub e, S, ⟨h.re.len, fun i x hx => ?_⟩, fun q hq => At.mono e2 _ _ (h.kp q hq)⟩
  · rcases List.mem_append.mp hq with hq | hq
    · exact hN q hq
    · simp at hq
      subst hq
      exact h.old hp
  · obtain ⟨v, h1, h2⟩ := h.re.at_ i x hx
    exact ⟨v, h1, h2.up e2 fun k p hk => get_app k p hk⟩

/-- what a def hands back -/
def Okr (K : Fg) (M0 : List Addr) (H0 : Hp) (x : Dx) (s' : Sto) (Q : VK) : Prop := ∀ M v H', (∃ N, M = M0 ++ N) → Same (hid M0 H0) (hid M0 H') → So K M s' H' → RX K M H' v x → Q v H'
/-- .. a new list -/
def OkN (K : Fg) (M0 : List Addr) (H0 : Hp) (ds : List PyData) (s' : Sto) (Q : VK) : Prop := ∀ p H', H0 p = none → Same (hid M0 H0) (hid M0 H') → So K (M0 ++ [p]) (s' ++ [ds]) H' → So K M0 s' H' → Q (.ref p) H'
theorem okr_d {Q : VK} {d : PyData} {t : Sto} (q : Okk K M0 s1 (.d d) H0 Q) (hl : s1.length = M0.length) : Okr K M0 H0 (.d d) (s1 ++ t) Q := fun M v H' ⟨N, hM⟩ e S r => by
  subst hM
  exact q v H' e (S.cut hl) (At.mono (hid_sub fun a m => List.mem_append_left _ m) d v r)
theorem okr_any {Q : VK} (q : Okk K M0 s1 x H0 Q) : ∀ v H', Same (hid M0 H0) (hid M0 H') → So K M0 s1 H' → RX K M0 H' v x → Q v H' := q
theorem w_asg (h : Ev K te ρ s x s1) (k : W K M0 H0 F D.nx (ρ.set n (some x)) s1) : W K M0 H0 F (tAsg te (gName n) D) ρ s := fun M σ H R =>
  h M σ H R.so R.re _ fun v H1 e S r => k M _ H1 ((R.step e S).set r)
theorem w_asgN {ds : List PyData} (h : EvN K te ρ s ds s1) (k : W K M0 H0 F D.nx (ρ.set n (some (.loc s1.length))) (s1 ++ [ds])) : W K M0 H0 F (tAsg te (gName n) D) ρ s := fun M σ H R =>
  h M σ H R.so R.re _ fun p H1 hp e S S2 => k _ _ H1 ((R.add hp e S).set ⟨p, by rw [S2.len]; simp, rfl⟩)
theorem w_ret (h : Ev K te ρ s x s1) (q : Okr K M0 H0 x s1 D.rt) : W K M0 H0 F (tRet te D) ρ s := fun M σ H R =>
  h M σ H R.so R.re _ fun v H1 e S r => q M v H1 (let ⟨N, a, _⟩ := R.ext; ⟨N, a⟩) (R.sub e) S r
theorem w_retN {ds : List PyData} (h : EvN K te ρ s ds s1) (hl : s.length = M0.length) (q : OkN K M0 H0 ds s1 D.rt) : W K M0 H0 F (tRet te D) ρ s := fun M σ H R => by
  obtain ⟨N, hM, hN⟩ := id R.ext
  have e : N = [] := by
    have := R.so.len
    rw [hM, List.length_append, hl] at this
    exact List.eq_nil_of_length_eq_zero (by omega)
  subst e
  rw [List.append_nil] at hM
  subst hM
  exact h _ σ H R.so R.re _ fun p H1 hp e S S2 => q p H1 (R.old hp) (R.sub e) S S2
theorem w_if (h : EvT K t ρ s b s1) (h1 : b = true → W K M0 H0 F (tu D) ρ s1) (h2 : b = false → W K M0 H0 F (tw D) ρ s1) : W K M0 H0 F (tIfS t tu tw D) ρ s := fun M σ H R =>
  h M σ H R.so R.re _ fun H1 e S => by
    cases b with
    | true => exact h1 rfl M σ H1 (R.step e S)
    | false => exact h2 rfl M σ H1 (R.step e S)
theorem w_seq (h : W K M0 H0 F (tu { D with nx := tw D }) ρ s) : W K M0 H0 F (tSeq tu tw D) ρ s := h
theorem w_next (h : W K M0 H0 F D.nx ρ s) : W K M0 H0 F (tNext D) ρ s := h
theorem w_drop (h : Ev K te ρ s x s1) (k : W K M0 H0 F D.nx ρ s1) : W K M0 H0 F (tDrop te D) ρ s := fun M σ H R =>
  h M σ H R.so R.re _ fun v H1 e S r => k M _ H1 (R.step e S)
theorem w_aug {ti : TIp} (h0 : ρ[n]? = some (some x)) (h : Ev K te ρ s y s1) (hr : Op2 K ti x y s1 z s2) (k : W K M0 H0 F D.nx (ρ.set n (some z)) s2) : W K M0 H0 F (tAug n te ti D) ρ s := fun M σ H R => by
  obtain ⟨v, h1, h2⟩ := R.re.at_ n x h0
  exact ⟨v, h1, h M σ H R.so R.re _ fun w H1 e S r => hr M H1 v w S (h2.mono e) r _ fun u H2 e2 S2 r2 => k M _ H2 ((R.step (e.trans e2) S2).set r2)⟩
/-- a, b = e1, e2 (no tuple) -/
theorem w_par (h : Eva K tas ρ s [x, y] s1) (k : W K M0 H0 F D.nx ((ρ.set n (some x)).set m (some y)) s1) : W K M0 H0 F (tPar n m tas D) ρ s := fun M σ H R =>
  h M σ H R.so R.re _ fun vs H1 e S r => by
    cases r with
    | cons h1 r =>
      cases r with
      | cons h2 r =>
        cases r
        exact ⟨_, _, rfl, k M _ H1 (((R.step e S).set h1).set h2)⟩
/-- a, b = t -/
theorem w_tup2 {d1 d2 : PyData} (h : Ev K te ρ s (.d (.tuple [d1, d2])) s1) (k : W K M0 H0 F D.nx ((ρ.set n (some (.d d1))).set m (some (.d d2))) s1) : W K M0 H0 F (tAsg te (gTup K 2 (gCons (gName n) (gCons (gName m) gNil))) D) ρ s := fun M σ H R =>
  h M σ H R.so R.re _ fun v H1 e S r => by
    cases r with
    | tup h1 a =>
      cases a with
      | cons a1 a =>
        cases a with
        | cons a2 a =>
          cases a
          exact ⟨_, _, rfl, same_t hid_same h1, rfl, _, _, rfl, _, _, rfl, rfl, k M _ H1 (((R.step e S).set (x := .d d1) a1).set (x := .d d2) a2)⟩
theorem w_tup3 {o : Nat} {d1 d2 d3 : PyData} (h : Ev K te ρ s (.d (.tuple [d1, d2, d3])) s1) (k : W K M0 H0 F D.nx (((ρ.set n (some (.d d1))).set m (some (.d d2))).set o (some (.d d3))) s1) : W K M0 H0 F (tAsg te (gTup K 3 (gCons (gName n) (gCons (gName m) (gCons (gName o) gNil)))) D) ρ s := fun M σ H R =>
  h M σ H R.so R.re _ fun v H1 e S r => by
    cases r with
    | tup h1 a =>
      cases a with
      | cons a1 a =>
        cases a with
        | cons a2 a =>
          cases a with
          | cons a3 a =>
            cases a
            exact ⟨_, _, rfl, same_t hid_same h1, rfl, _, _, rfl, _, _, rfl, _, _, rfl, rfl, k M _ H1 ((((R.step e S).set (x := .d d1) a1).set (x := .d d2) a2).set (x := .d d3) a3)⟩
/-- l[j] = e, l a list of the store -/
theorem w_setI {tl tj : TE} {d : PyData} {ds : List PyData} {l : Nat} {jn : Nat} (hv : Ev K te ρ s (.d d) s1) (hl : Ev K tl ρ s1 (.loc l) s1) (hj : Ev K tj ρ s1 (.d (.int j)) s1) (hd : s1[l]? = some ds) (hi : ixN ds.length j = some jn)
    (k : W K M0 H0 F D.nx ρ (s1.set l (ds.set jn d))) : W K M0 H0 F (tAsg te (gSub tl tj rSetL) D) ρ s := fun M σ H R =>
  hv M σ H R.so R.re _ fun v H1 e1 S1 r1 => hl M σ H1 S1 (R.re.mono e1) _ fun w H2 e2 S2 r2 => hj M σ H2 S2 (R.re.mono (e1.trans e2)) _ fun w3 H3 e3 S3 r3 => by
    obtain ⟨p, hp, rfl⟩ := r2
    cases r3
    obtain ⟨p', vs, hp', h1, h2⟩ := S3.get hd
    rw [hp] at hp'; cases hp'
    have hm : p ∈ M := List.mem_of_getElem? hp
    refine ⟨p, vs, j, jn, rfl, rfl, h1, by rw [h2.len]; exact hi, ?_⟩
    have e := (e1.trans e2).trans e3
    refine k M σ _ (R.step ?_ (S3.put hp (AtAll.set (At.mono (e2.trans e3) _ _ r1) jn h2)))
    rw [hid_upd hm]
    exact e
/-- l.append(e), l a list of the store -/
theorem w_app {tl : TE} {ta : TA} {d : PyData} {ds : List PyData} {l : Nat} (hl : Ev K tl ρ s (.loc l) s) (hv : Eva K ta ρ s [.d d] s1) (hd : s1[l]? = some ds) (hz : ds.length < 1000000)
    (k : W K M0 H0 F D.nx ρ (s1.set l (ds ++ [d]))) (hs : ∃ ds0, s[l]? = some ds0) : W K M0 H0 F (tDrop (tBM K "list" rAppend tl ta) D) ρ s := fun M σ H R =>
  hl M σ H R.so R.re _ fun w H1 e1 S1 r1 => by
    obtain ⟨p, hp, rfl⟩ := r1
    obtain ⟨ds0, hs⟩ := hs
    obtain ⟨p0, vs0, hp0, g1, _⟩ := S1.get hs
    rw [hp] at hp0; cases hp0
    refine ⟨.inl ⟨rfl, vs0, SqL.of g1⟩, hv M σ H1 S1 (R.re.mono e1) _ fun vs H2 e2 S2 r2 => ?_⟩
    cases r2 with
    | cons a r2 =>
      cases r2
      obtain ⟨p', ws, hp', h1, h2⟩ := S2.get hd
      rw [hp] at hp'; cases hp'
      refine ⟨p, ws, _, rfl, rfl, h1, by rw [h2.len]; exact Nat.lt_of_lt_of_le hz (by decide), ?_⟩
      refine k M σ _ (R.step ?_ (S2.put hp (h2.append (.cons a .nil))))
      rw [hid_upd (List.mem_of_getElem? hp)]
      exact e1.trans e2

/-- less is known -/
theorem w_weak (h : W K M0 H0 F P ρ' s) (hl : ρ'.length = ρ.length) (hw : ∀ (i : Nat) x, ρ'[i]? = some (some x) → ρ[i]? = some (some x)) : W K M0 H0 F P ρ s := fun M σ H R =>
  h M σ H ⟨R.ext, R.same, R.so, ⟨R.re.len.trans hl.symm, fun i x hx => R.re.at_ i x (hw i x hx)⟩, R.kp⟩
def leq : En → En → Bool
  | [], [] => true
  | none :: l, _ :: m => leq l m
  | _, _ => false
/-- the store's last list is no more written: it is data from here on -/
def noLoc (k : Nat) : En → Prop
  | [] => True
  | some (.loc j) :: r => j ≠ k ∧ noLoc k r
  | _ :: r => noLoc k r
theorem noLoc_at {k : Nat} : ∀ {ρ : En}, noLoc k ρ → ∀ (i j : Nat), ρ[i]? = some (some (.loc j)) → j ≠ k
  | some (.loc j) :: r, h, 0, j', e => by
    cases e
    exact h.1
  | some (.loc j) :: r, h, i + 1, j', e => noLoc_at (ρ := r) h.2 i j' e
  | some (.d _) :: r, h, i + 1, j', e => noLoc_at (ρ := r) h i j' e
  | some (.scr _) :: r, h, i + 1, j', e => noLoc_at (ρ := r) h i j' e
  | some (.exc _ _) :: r, h, i + 1, j', e => noLoc_at (ρ := r) h i j' e
  | none :: r, h, i + 1, j', e => noLoc_at (ρ := r) h i j' e
  | some (.d _) :: r, h, 0, j', e => by cases e
  | some (.scr _) :: r, h, 0, j', e => by cases e
  | some (.exc _ _) :: r, h, 0, j', e => by cases e
  | none :: r, h, 0, j', e => by cases e
theorem Rl.cut {p : Addr} {ds : List PyData} (R : Rl K M0 H0 F (M ++ [p]) (s ++ [ds]) ρ σ H) (hM : M0.length ≤ M.length) (hρ : noLoc M.length ρ) : Rl K M0 H0 F M s ρ σ H := by
  obtain ⟨N, e, hN⟩ := R.ext
  have hsl : s.length = M.length := by
    have := R.so.len
    simp at this
    exact this
  have hNe : ∃ N', M = M0 ++ N' ∧ ∀ p ∈ N', H0 p = none := by
    have e1 : M = (M0 ++ N).dropLast := by rw [← e, List.dropLast_concat]
    have n0 : N ≠ [] := fun z => by
      subst z
      have := congrArg List.length e
      simp at this
      omega
    refine ⟨N.dropLast, by rw [e1, List.dropLast_append_of_ne_nil n0], fun q hq => hN q (List.dropLast_subset N hq)⟩
  have sub : Same (hid (M ++ [p]) H) (hid M H) := hid_sub fun a m => List.mem_append_left _ m
  refine ⟨hNe, R.same, R.so.cut hsl, ⟨R.re.len, fun i x hx => ?_⟩, fun q hq => At.mono sub _ _ (R.kp q hq)⟩
  obtain ⟨v, h1, h2⟩ := R.re.at_ i x hx
  refine ⟨v, h1, ?_⟩
  cases x with
  | d d => exact At.mono sub d v h2
  | scr ns => obtain ⟨a, h3, h4⟩ := h2; exact ⟨a, h3, sub.seq h4⟩
  | exc cls fo => obtain ⟨a, d, h3, h4, h5⟩ := h2; exact ⟨a, d, h3, sub _ _ h4, h5.up sub⟩
  | loc k =>
    obtain ⟨q, h3, h4⟩ := h2
    refine ⟨q, ?_, h4⟩
    have ne := noLoc_at hρ i k hx
    have hk := (List.getElem?_eq_some_iff.mp h3).1
    simp at hk
    rw [List.getElem?_append_left (by omega)] at h3
    exact h3
theorem w_cut {ds : List PyData} (k : W K M0 H0 F P ρ' s) (hM : M0.length ≤ s.length) (hρ : noLoc s.length ρ') (hl : ρ'.length = ρ.length) (hw : ∀ (i : Nat) x, ρ'[i]? = some (some x) → ρ[i]? = some (some x)) : W K M0 H0 F P ρ (s ++ [ds]) := w_weak (fun M σ H R => by
  have hl := R.so.len
  simp at hl
  have hne : M ≠ [] := fun z => by subst z; simp at hl
  obtain ⟨M', p, rfl⟩ : ∃ M' p, M = M' ++ [p] := ⟨M.dropLast, M.getLast hne, (List.dropLast_concat_getLast hne).symm⟩
  simp at hl
  exact k M' σ H (R.cut (by omega) (by rw [← hl]; exact hρ))) hl hw
theorem w_freeze {ds : List PyData} (hn : ρ[n]? = some (some (.loc s.length))) (k : W K M0 H0 F P (ρ.set n (some (.d (.list ds)))) s) (hM : M0.length ≤ s.length) (hρ : noLoc s.length (ρ.set n (some (.d (.list ds))))) : W K M0 H0 F P ρ (s ++ [ds]) := fun M σ H R => by
  have hl := R.so.len
  simp at hl
  have hne : M ≠ [] := fun z => by subst z; simp at hl
  obtain ⟨M', p, rfl⟩ : ∃ M' p, M = M' ++ [p] := ⟨M.dropLast, M.getLast hne, (List.dropLast_concat_getLast hne).symm⟩
  simp at hl
  obtain ⟨v, h1, q, h2, rfl⟩ := R.re.at_ n _ hn
  have hq : q = p := by
    rw [hl] at h2
    simp at h2
    exact h2.symm
  subst hq
  obtain ⟨vs, g1, g2⟩ := R.so.at_ M'.length q ds (by simp) (by rw [← hl]; simp)
  -- ρ with the slot forgotten, then set anew
  have R0 : Rl K M0 H0 F (M' ++ [q]) (s ++ [ds]) (ρ.set n none) σ H := ⟨R.ext, R.same, R.so, ⟨by simpa using R.re.len, fun i x hx => by
    by_cases c : i = n
    · subst c
      by_cases hj : i < ρ.length
      · rw [List.getElem?_set_self hj] at hx; cases hx
      · rw [List.getElem?_eq_none (by simpa using hj)] at hx; cases hx
    · rw [List.getElem?_set_ne (Ne.symm c)] at hx
      exact R.re.at_ i x hx⟩, R.kp⟩
  have nl : ∀ {l : En} {n : Nat} {d : PyData} {k : Nat}, noLoc k (l.set n (some (.d d))) → noLoc k (l.set n none) := fun {l} => by
    induction l with
    | nil => intro n d k h; exact h
    | cons a l ih =>
      intro n d k h
      cases n with
      | zero => exact h
      | succ n =>
        cases a with
        | none => exact ih (n := n) (d := d) h
        | some a =>
          cases a with
          | d _ => exact ih (n := n) (d := d) h
          | scr _ => exact ih (n := n) (d := d) h
          | exc _ _ => exact ih (n := n) (d := d) h
          | loc j => exact ⟨h.1, ih (n := n) (d := d) h.2⟩
  have R1 := R0.cut (by omega) (by rw [← hl]; exact nl hρ)
  have hqM : q ∉ M' := fun m => (List.nodup_append.mp R.so.nd).2.2 q m q (by simp) rfl
  have a : RX K M' H (.ref q) (.d (.list ds)) := .lst (by rw [hid_out hqM]; exact g1) (AtAll.mono (hid_sub fun a m => List.mem_append_left _ m) ds vs g2)
  have R2 := R1.set (n := n) a
  rw [List.set_set] at R2
  have es : σ.set n (some (.ref q)) = σ := by
    refine List.ext_getElem? fun i => ?_
    by_cases c : n = i
    · subst c
      rw [List.getElem?_set_self (List.getElem?_eq_some_iff.mp h1).1, h1]
    · rw [List.getElem?_set_ne c]
  rw [es] at R2
  exact k M' σ H R2

/-! ### loops -/
theorem Rl.more {v : V} {d : PyData} (R : Rl K M0 H0 F M s ρ σ H) (r : At K (hid M H) v d) : Rl K M0 H0 ((v, d) :: F) M s ρ σ H := ⟨R.ext, R.same, R.so, R.re, fun q hq => by
  rcases List.mem_cons.mp hq with rfl | hq
  · exact r
  · exact R.kp q hq⟩
theorem Rl.less {q : V × PyData} (R : Rl K M0 H0 (q :: F) M s ρ σ H) : Rl K M0 H0 F M s ρ σ H := ⟨R.ext, R.same, R.so, R.re, fun p hp => R.kp p (List.mem_cons_of_mem _ hp)⟩
theorem w_less {q : V × PyData} (h : W K M0 H0 F P ρ s) : W K M0 H0 (q :: F) P ρ s := fun M σ H R => h M σ H R.less
/-- for x in xs, xs data -/
theorem w_forL {tl : TE} {ds : List PyData} {tb : TS} (h : Ev K tl ρ s (.d (.list ds)) s1) (I : Nat → En → Sto → Prop) (h0 : I 0 ρ s1)
    (hs : ∀ v (i : Nat) d ρ' s' (N : L2.St → Hp → Prop), ds[i]? = some d → I i ρ' s' → (∀ ρ2 s2, I (i + 1) ρ2 s2 → W K M0 H0 ((v, .list ds) :: F) N ρ2 s2) → W K M0 H0 ((v, .list ds) :: F) (tb { D with nx := N, ct := N, bk := D.nx }) (ρ'.set n (some (.d d))) s')
    (hd : ∀ ρ' s', I ds.length ρ' s' → W K M0 H0 F D.nx ρ' s') : W K M0 H0 F (tFor (iList K tl) (gName n) tb D) ρ s := fun M σ H R => by
  refine h M σ H R.so R.re _ fun v H1 e S r => ?_
  replace R := (R.step e S).more r
  clear r S e
  generalize H1 = H at R ⊢
  have hv := R.kp _ (List.mem_cons_self ..)
  have hv0 : At K (hid M H) v (.list ds) := hv
  cases hv0 with
  | @lst a xs _ ha hxs =>
    refine ⟨a, rfl, ⟨xs, SqL.of (hid_some ha).2⟩, fun i m σ H => m = ds.length - i ∧ i ≤ ds.length ∧ ∃ M s ρ, Rl K M0 H0 ((.ref a, .list ds) :: F) M s ρ σ H ∧ I i ρ s, ⟨_, rfl, Nat.zero_le _, M, _, _, R, h0⟩, ?_⟩
    rintro i m σ H ⟨rfl, hi, M, s, ρ, R, hI⟩
    have hv := R.kp _ (List.mem_cons_self ..)
    have hv0 : At K (hid M H) (.ref a) (.list ds) := hv
    cases hv0 with
    | @lst _ xs _ ha hxs =>
      have hS : SqL K H a xs := SqL.of (hid_some ha).2
      by_cases c : i < ds.length
      · obtain ⟨w, hw, rw_⟩ := hxs.get (List.getElem?_eq_getElem c)
        refine .inr ⟨⟨xs, w, hS, hw⟩, fun σ H => ∃ M s ρ, Rl K M0 H0 ((.ref a, .list ds) :: F) M s ρ σ H ∧ I (i + 1) ρ s, fun σ' H' ⟨M, s, ρ, R, hI⟩ => ⟨ds.length - (i + 1), by omega, rfl, by omega, M, s, ρ, R, hI⟩, fun x H' ⟨e, hx⟩ => ?_⟩
        subst e
        have ex : x = w := Option.some.inj ((hx xs hS).symm.trans hw)
        subst ex
        exact hs (.ref a) i _ ρ s _ (List.getElem?_eq_getElem c) hI (fun ρ2 s2 h2 M σ H R => ⟨M, s2, ρ2, R, h2⟩) M _ _ (R.set (x := .d ds[i]) rw_)
      · have e : i = ds.length := by omega
        subst e
        exact .inl ⟨⟨xs, hS, by rw [hxs.len]; exact Nat.le_refl _⟩, hd ρ s hI M σ H R.less⟩
/-- for k in range(n) -/
theorem w_forR {ta : TA} {tb : TS} {c : Nat} (h : Eva K ta ρ s [.d (.int (c : Int))] s1) (hc : c < 2 ^ 60) (I : Nat → En → Sto → Prop) (h0 : I 0 ρ s1)
    (hs : ∀ (i : Nat) ρ' s' (N : L2.St → Hp → Prop), i < c → I i ρ' s' → (∀ ρ2 s2, I (i + 1) ρ2 s2 → W K M0 H0 F N ρ2 s2) → W K M0 H0 F (tb { D with nx := N, ct := N, bk := D.nx }) (ρ'.set n (some (.d (.int (i : Int))))) s')
    (hd : ∀ ρ' s', I c ρ' s' → W K M0 H0 F D.nx ρ' s') : W K M0 H0 F (tFor (iRng1 ta) (gName n) tb D) ρ s := fun M σ H R => by
  refine h M σ H R.so R.re _ fun vs H1 e S r => ?_
  cases r with
  | cons r1 r =>
    cases r
    cases r1
    refine ⟨(c : Int), rfl, by omega, by omega, ?_⟩
    rw [Int.toNat_natCast]
    refine ⟨fun i m σ H => m = c - i ∧ i ≤ c ∧ ∃ M s ρ, Rl K M0 H0 F M s ρ σ H ∧ I i ρ s, ⟨_, rfl, Nat.zero_le _, M, _, _, R.step e S, h0⟩, ?_⟩
    rintro i m σ H ⟨rfl, hi, M, s, ρ, R, hI⟩
    by_cases cc : i < c
    · refine .inr ⟨cc, fun σ H => ∃ M s ρ, Rl K M0 H0 F M s ρ σ H ∧ I (i + 1) ρ s, fun σ' H' ⟨M, s, ρ, R, hI⟩ => ⟨c - (i + 1), by omega, rfl, by omega, M, s, ρ, R, hI⟩, fun x H' ⟨e, hx⟩ => ?_⟩
      subst e
      subst hx
      rw [Int.zero_add]
      exact hs i ρ s _ cc hI (fun ρ2 s2 h2 M σ H R => ⟨M, s2, ρ2, R, h2⟩) M _ _ (R.set (x := .d (.int (i : Int))) (.int _))
    · have e : i = c := by omega
      subst e
      exact .inl ⟨Nat.le_refl _, hd ρ s hI M σ H R⟩
theorem w_while {tc : TT} {tb : TS} (I : Nat → En → Sto → Prop) (h0 : ∃ m, I m ρ s)
    (hs : ∀ m ρ' s', I m ρ' s' → ∃ b s2, EvT K tc ρ' s' b s2 ∧ (b = true → ∀ N : L2.St → Hp → Prop, (∀ m' ρ2 s3, m' < m → I m' ρ2 s3 → W K M0 H0 F N ρ2 s3) → W K M0 H0 F (tb { D with nx := N, ct := N, bk := D.nx }) ρ' s2) ∧ (b = false → W K M0 H0 F D.nx ρ' s2)) :
    W K M0 H0 F (tWhile tc tb D) ρ s := fun M σ H R => by
  obtain ⟨m, hm⟩ := h0
  refine ⟨fun m σ H => ∃ M s ρ, Rl K M0 H0 F M s ρ σ H ∧ I m ρ s, ⟨m, M, s, ρ, R, hm⟩, ?_⟩
  rintro m σ H ⟨M, s, ρ, R, hI⟩
  obtain ⟨b, s2, hT, h1, h2⟩ := hs m ρ s hI
  refine hT M σ H R.so R.re _ fun H1 e S => ?_
  cases b with
  | true => exact ⟨fun σ H => ∃ m', m' < m ∧ ∃ M s ρ, Rl K M0 H0 F M s ρ σ H ∧ I m' ρ s, fun σ' H' h => h, h1 rfl _ (fun m' ρ2 s3 hlt h3 M σ H R => ⟨m', hlt, M, s3, ρ2, R, h3⟩) M σ H1 (R.step e S)⟩
  | false => exact h2 rfl M σ H1 (R.step e S)
end
end Pw
namespace Pw
open PySem L2
section
variable {K : Fg} {ρ ρ' : En} {s s1 s2 s3 : Sto} {x y z : Dx} {xs ys zs : List Dx} {ta tb te : TE} {tas tks : TA} {t u : TT} {r r' : R2} {b c : Bool} {i j k : Int} {X : Cx} {n m : Nat}

/-! ## calls of defs -/
abbrev Gr := List Dx → Sto → Dx → Sto → Prop
abbrev GrN := List Dx → Sto → List PyData → Sto → Prop
def spF (K : Fg) (R : Gr) : Sp := fun vs H Q _ => ∃ M xs s x s', R xs s x s' ∧ So K M s H ∧ RXs K M H vs xs ∧ Okk K M s' x H Q
def spN (K : Fg) (R : GrN) : Sp := fun vs H Q _ => ∃ M xs s ds s', R xs s ds s' ∧ So K M s H ∧ RXs K M H vs xs ∧
  ∀ p H', H p = none → Same (hid M H) (hid M H') → So K (M ++ [p]) (s' ++ [ds]) H' → So K M s' H' → Q (.ref p) H'
theorem RXs.len {M : List Addr} {H : Hp} : ∀ {vs : List V} {xs : List Dx}, RXs K M H vs xs → vs.length = xs.length
  | _, _, .nil => rfl
  | _, _, .cons _ t => congrArg Nat.succ t.len
theorem RXs.append {M : List Addr} {H : Hp} : ∀ {vs ws : List V} {xs ys : List Dx}, RXs K M H vs xs → RXs K M H ws ys → RXs K M H (vs ++ ws) (xs ++ ys)
  | _, _, _, _, .nil, s => s
  | _, _, _, _, .cons h t, s => .cons h (t.append s)
theorem spF_len {R : Gr} {l : Nat} (h : ∀ xs s x s', R xs s x s' → xs.length = l) : ∀ vs H Q E, spF K R vs H Q E → vs.length = l := fun vs H Q E ⟨_, _, _, _, _, hR, _, hr, _⟩ => hr.len.trans (h _ _ _ _ hR)
theorem spN_len {R : GrN} {l : Nat} (h : ∀ xs s x s', R xs s x s' → xs.length = l) : ∀ vs H Q E, spN K R vs H Q E → vs.length = l := fun vs H Q E ⟨_, _, _, _, _, hR, _, hr, _⟩ => hr.len.trans (h _ _ _ _ hR)
theorem ev_call {R : Gr} {E : XK} (ha : Eva K tas ρ s xs s1) (hR : R xs s1 z s2) : Ev K (tCall (spF K R) [] E tas) ρ s z s2 := fun M σ H S Re Q q =>
  ha M σ H S Re _ fun vs H1 e1 S1 r1 => ⟨M, xs, s1, z, s2, hR, S1, by rw [List.append_nil]; exact r1, q.step e1⟩
/-- .. with a default -/
theorem ev_callD {R : Gr} {E : XK} {dvs : List V} (ha : Eva K tas ρ s xs s1) (hd : ∀ M H, RXs K M H dvs ys) (hR : R (xs ++ ys) s1 z s2) : Ev K (tCall (spF K R) dvs E tas) ρ s z s2 := fun M σ H S Re Q q =>
  ha M σ H S Re _ fun vs H1 e1 S1 r1 => ⟨M, _, s1, z, s2, hR, S1, r1.append (hd M H1), q.step e1⟩
theorem evn_call {R : GrN} {E : XK} {ds : List PyData} (ha : Eva K tas ρ s xs s1) (hR : R xs s1 ds s2) : EvN K (tCall (spN K R) [] E tas) ρ s ds s2 := fun M σ H S Re Q q =>
  ha M σ H S Re _ fun vs H1 e1 S1 r1 => ⟨M, xs, s1, ds, s2, hR, S1, by rw [List.append_nil]; exact r1, fun p H2 hp e2 => q p H2 (by
    cases hq : H p with
    | none => rfl
    | some o =>
      have := hid_some (e1 p o (by rw [hid_out (S1.free hp)]; exact hq))
      rw [hp] at this; cases this.2) (e1.trans e2)⟩
/-- f(k = v, ..) by keywords alone -/
theorem ev_callK {R : Gr} {E : XK} {gV : List V → List V → List V} {l : Nat} (hk : Eva K tks ρ s ys s1) (hl : ys.length = l) (hg : ∀ M H zs, RXs K M H zs ys → RXs K M H (gV [] zs) xs) (hR : R xs s1 z s2) :
    Ev K (tCallN 0 l (spF K R) gV E tNil tks) ρ s z s2 := fun M σ H S Re Q q =>
  hk M σ H S Re _ fun zs H1 e1 S1 r1 => ⟨rfl, r1.len.trans hl, M, xs, s1, z, s2, hR, S1, hg M H1 zs r1, q.step e1⟩
section
variable {CX : CXT} {l kk : Nat} {f : Addr} {fd : FuncData} {ps ks : List Str} {sp : Sp} {E : XK} {fx : Str} {p pos : Pos} {kws : List Keyword} {tk : TA} {g : List Value → List Value → List Value} {gV : List V → List V → List V}
theorem pe_kw (G : FnOk X.prog X.w X.K X.mg X.base CX kk f fd ps sp) (hr : Room kk X.A) (hg : Gl X fx) (hm : X.mg fx = some (.ref f)) (hk : PySem.W.keepIn X.K (.ref f) = true) (hb : KBn X.K fd ps 0 ks g gV) (hx : Passes CX X E) (hkw : PK X kws tk)
    (hall : (backToKw pos (keywordEach kws X.env)).all (·.1.isSome) = true := by rfl)
    (hks : (backToKw pos (keywordEach kws X.env)).filterMap (·.1) = ks := by rfl)
    (hdb : (fx == ("__debug__" : Str)) = false := by decide)
    (hpl : ((backTo pos (starEach [] X.env)).any (·.1) || (backToKw pos (keywordEach kws X.env)).any (·.1.isNone)) = false := by rfl) :
    PE X (.Call (.Name fx p) [] kws pos) (tCallN 0 ks.length sp gV E tNil tk) := ⟨fun pins s σ H Q I h => by
  refine wpAny_Call_Name_kw (ld_glob I hg hm ?_ hdb)
  refine PySem.W.callWith_KW0 (h₀ := X.base) I.ok.mod.kin hk hall ?_ hpl
  refine thn (hkw.run pos pins s σ H _ I h) fun ws s2 ⟨zs, H2, I2, rz, l1, l2, q2⟩ => ⟨I2.kIn, ?_⟩
  rw [hks]
  exact run_fnN G hr hb hx I2 (us := []) (vs := []) .nil rz rfl l2 q2⟩
end
/-- a def without defaults, called by keywords alone -/
theorem kb_of {qual nm : Str} {st : Stmt} {f : Addr} {fd : FuncData} {ps ks : List Str} {g : {α : Type} → List α → List α} (G : Fun K nm qual st f fd)
    (hrel : ∀ {zs : List V} {ws : List Value}, zs.length = ks.length → Vals zs ws → Vals (g zs) (g ws))
    (h : ∀ (kV doc pm : Value) (an : Option Addr) (cdv ct : Value) (ws : List Value), ws.length = ks.length → bindArgs (PySem.W.fnOf nm qual (defArgs st) (defBody st) (defScope st) .none kV doc pm an cdv ct) ⟨[], ks.zip ws⟩ = pure (ps.zip (g ws)))
    (hd : ∀ {zs : List V} {ws : List Value}, zs.length ≠ ks.length → Vals zs ws → Vals (g zs) (g ws)) : KBn K fd ps 0 ks (fun _ ws => g ws) (fun _ zs => g zs) := by
  obtain ⟨oc, od, kV, doc, pm, an, cdv, ct, osl, rfl, lk, hcd⟩ := G.ex
  refine ⟨fun s us ws X l1 l2 => ?_, fun {vs us zs ws} _ r => ?_⟩
  · have e : us = [] := List.eq_nil_of_length_eq_zero l1
    subst e
    exact .of_eq (h kV doc pm an cdv ct ws l2)
  · by_cases c : zs.length = ks.length
    · exact hrel c r
    · exact hd c r

/-! ## comprehensions -/
theorem lc_any {J : It} {N : Nat} {g : TG} {tt : TT} {te : TE} {vs : List Nat} {σ : L2.St} {H1 : Hp} {A : Addr} {Qd : Hp → Prop} (Pv : Nat → Hp → Prop) (h0 : Pv 0 (upd H1 A (.lst [])))
    (hgo : ∀ i H, i < N → Pv i H → J.go i H) (hst : ∀ H, Pv N H → J.stop N H)
    (hs : ∀ i x H H', i < N → Pv i H → J.yld i H x H' → g x (wipe σ vs) H' fun σ2 H2 => wipe σ2 vs = wipe σ vs ∧ tt σ2 H2 fun b H3 =>
      if b = true then te σ2 H3 fun y H4 => ∃ acc, H4 A = some (.lst acc) ∧ acc.length < sizeLine ∧ Pv (i + 1) (upd H4 A (.lst (acc ++ [y]))) else Pv (i + 1) H3) (hd : ∀ H, Pv N H → Qd H) :
    ∃ Wf : Nat → Nat → Hp → Prop, (∃ m, Wf 0 m (upd H1 A (.lst []))) ∧ ∀ i m H, Wf i m H →
      (J.stop i H ∧ Qd H) ∨ (J.go i H ∧ ∃ Nx : Hp → Prop, (∀ H', Nx H' → ∃ m', m' < m ∧ Wf (i + 1) m' H') ∧ ∀ x H', J.yld i H x H' → g x (wipe σ vs) H' fun σ2 H2 => wipe σ2 vs = wipe σ vs ∧ tt σ2 H2 fun b H3 =>
        if b = true then te σ2 H3 fun y H4 => ∃ acc, H4 A = some (.lst acc) ∧ acc.length < sizeLine ∧ Nx (upd H4 A (.lst (acc ++ [y]))) else Nx H3) := by
  refine ⟨fun i m H => m = N - i ∧ i ≤ N ∧ Pv i H, ⟨N, by simp, Nat.zero_le _, h0⟩, ?_⟩
  rintro i m H ⟨rfl, hi, hp⟩
  by_cases c : i < N
  · exact .inr ⟨hgo i H c hp, Pv (i + 1), fun H' q => ⟨N - (i + 1), by omega, rfl, c, q⟩, fun x H' y => hs i x H H' c hp y⟩
  · have e : i = N := by omega
    subst e
    exact .inl ⟨hst H hp, hd H hp⟩
/-- what holds between two items: the new list at A stands behind the store -/
structure Lc (K : Fg) (M : List Addr) (H1 : Hp) (S : Nat → Sto) (es : List PyData) (A : Addr) (σ : L2.St) (ρ : En) (src : List (V × PyData)) (i : Nat) (H : Hp) : Prop where
  so : So K (M ++ [A]) (S i ++ [es.take i]) H
  sm : Same (hid M H1) (hid M H)
  re : RE K (M ++ [A]) H σ ρ
  sr : ∀ q ∈ src, At K (hid (M ++ [A]) H) q.1 q.2
variable {M : List Addr} {H H1 H2 : Hp} {S : Nat → Sto} {es ds : List PyData} {A : Addr} {σ : L2.St} {src : List (V × PyData)} {tl : TE}
theorem Lc.start (hS : So K M (S 0) H1) (hR : RE K M H1 σ ρ) (hs : ∀ q ∈ src, At K (hid M H1) q.1 q.2) (hA : H1 A = none) : Lc K M H1 S es A σ ρ src 0 (upd H1 A (.lst [])) := by
  have e0 : Same (hid M H1) (hid (M ++ [A]) (upd H1 A (.lst []))) := fun a o h => by
    obtain ⟨c, h⟩ := hid_some h
    have ne := ne_of_none h hA
    rw [hid_out (by simp [c, ne]), upd_ne ne]
    exact h
  refine ⟨by rw [List.take_zero]; exact hS.add hA .nil, hid_new hA, ⟨hR.len, fun i x hx => ?_⟩, fun q hq => At.mono e0 _ _ (hs q hq)⟩
  obtain ⟨v, h1, h2⟩ := hR.at_ i x hx
  exact ⟨v, h1, h2.up e0 fun k p hk => get_app k p hk⟩
theorem Lc.item {i : Nat} {e : PyData} {v : V} (L : Lc K M H1 S es A σ ρ src i H) (hA : H1 A = none) (he : es[i]? = some e) (e2 : Same (hid (M ++ [A]) H) (hid (M ++ [A]) H2)) (hS : So K (M ++ [A]) (S (i + 1) ++ [es.take i]) H2) (r : RX K (M ++ [A]) H2 v (.d e)) (hz : es.length ≤ 1000000) :
    ∃ acc, H2 A = some (.lst acc) ∧ acc.length < sizeLine ∧ Lc K M H1 S es A σ ρ src (i + 1) (upd H2 A (.lst (acc ++ [v]))) := by
  have hsl : (S (i + 1)).length = M.length := by
    have := hS.len
    simp at this
    exact this
  have gM : (M ++ [A])[M.length]? = some A := by simp
  obtain ⟨acc, h1, h2⟩ := hS.at_ M.length A (es.take i) gM (by rw [← hsl]; simp)
  have hi : i < es.length := (List.getElem?_eq_some_iff.mp he).1
  refine ⟨acc, h1, ?_, ?_⟩
  · rw [h2.len, List.length_take]
    exact Nat.lt_of_le_of_lt (Nat.le_trans (Nat.min_le_right _ _) hz) (by decide)
  · have hAm : A ∈ M ++ [A] := by simp
    have ht : es.take (i + 1) = es.take i ++ [e] := by rw [List.take_add_one, he]; rfl
    have e3 : hid (M ++ [A]) (upd H2 A (.lst (acc ++ [v]))) = hid (M ++ [A]) H2 := hid_upd hAm
    refine ⟨?_, ?_, ?_, ?_⟩
    · have q := hS.put gM (h2.append (.cons r .nil))
      rw [← hsl, List.set_append_right _ _ (Nat.le_refl _), Nat.sub_self] at q
      rw [ht]
      exact q
    · intro a o h
      obtain ⟨c, h'⟩ := hid_some (L.sm a o h)
      have ne : a ≠ A := ne_of_none (hid_some h).2 hA
      have := e2 a o (by rw [hid_out (by simp [c, ne])]; exact h')
      rw [hid_out c, upd_ne ne]
      exact (hid_some this).2
    · refine L.re.mono ?_
      rw [e3]
      exact e2
    · intro q hq
      rw [e3]
      exact At.mono e2 _ _ (L.sr q hq)
theorem Lc.done {N : Nat} {Q : VK} (L : Lc K M H1 S es A σ ρ src N H) (hA : H1 A = none) (hN : es.length = N) (e0 : Same (hid M H2) (hid M H1)) (hA2 : H2 A = none)
    (q : ∀ p H', H2 p = none → Same (hid M H2) (hid M H') → So K (M ++ [p]) (S N ++ [es]) H' → So K M (S N) H' → Q (.ref p) H') : Q (.ref A) H := by
  have e : es.take N = es := by rw [← hN]; exact List.take_length
  have h := L.so
  rw [e] at h
  have hl := h.len
  simp at hl
  exact q A H hA2 (e0.trans L.sm) h (h.cut hl)
theorem wipe1 {σ : L2.St} {n : Nat} {v : V} : wipe ((wipe σ [n]).set n (some v)) [n] = wipe σ [n] := by
  show ((σ.set n none).set n (some v)).set n none = σ.set n none
  rw [List.set_set, List.set_set]
theorem wipe1s {σ : L2.St} {n : Nat} {v : V} : (wipe σ [n]).set n (some v) = σ.set n (some v) := by
  show (σ.set n none).set n (some v) = _
  rw [List.set_set]
theorem back_none (e1 : Same (hid M H) (hid M H1)) (hS : So K M s H1) (hA : H1 A = none) : H A = none := by
  cases hq : H A with
  | none => rfl
  | some o =>
    have := hid_some (e1 A o (by rw [hid_out (hS.free hA)]; exact hq))
    rw [hA] at this; cases this.2
/-- [e for x in xs], xs a list -/
theorem evn_lcL (h : Ev K tl ρ s (.d (.list ds)) (S 0)) (hl : es.length = ds.length) (hz : es.length ≤ 1000000)
    (he : ∀ (i : Nat) d e, ds[i]? = some d → es[i]? = some e → Ev K te (ρ.set n (some (.d d))) (S i ++ [es.take i]) (.d e) (S (i + 1) ++ [es.take i])) : EvN K (tLc (iList K tl) (gName n) tYes te [n]) ρ s es (S ds.length) := fun M σ H So0 Re Q q => by
  refine h M σ H So0 Re _ fun v H1 e1 S1 r1 => ?_
  have r0 : At K (hid M H1) v (.list ds) := r1
  cases r0 with
  | @lst a vs _ ha hvs =>
    refine ⟨a, rfl, ⟨vs, SqL.of (hid_some ha).2⟩, fun A hA => ?_⟩
    have src : ∀ {i H}, Lc K M H1 S es A σ ρ [(.ref a, .list ds)] i H → ∃ vs, SqL K H a vs ∧ AtAll K (hid (M ++ [A]) H) vs ds := fun {i H} L => by
      have := L.sr _ (List.mem_cons_self ..)
      have h2 : At K (hid (M ++ [A]) H) (.ref a) (.list ds) := this
      cases h2 with
      | lst h3 h4 => exact ⟨_, SqL.of (hid_some h3).2, h4⟩
    refine lc_any (J := Itl K a) (N := ds.length) (Lc K M H1 S es A σ ρ [(.ref a, .list ds)]) (Lc.start S1 (Re.mono e1) (fun q hq => ?_) hA) (fun i H hi L => ?_) (fun H L => ?_) (fun i x H H' hi L hy => ?_) (fun H L => L.done hA hl e1 (back_none e1 S1 hA) q)
    · simp at hq
      subst hq
      exact r1
    · obtain ⟨vs, h1, h2⟩ := src L
      obtain ⟨w, hw, _⟩ := h2.get (List.getElem?_eq_getElem hi)
      exact ⟨vs, w, h1, hw⟩
    · obtain ⟨vs, h1, h2⟩ := src L
      exact ⟨vs, h1, by rw [h2.len]; exact Nat.le_refl _⟩
    · obtain ⟨e, hx⟩ := hy
      subst e
      obtain ⟨vs, h1, h2⟩ := src L
      obtain ⟨w, hw, rw_⟩ := h2.get (List.getElem?_eq_getElem hi)
      have ex : x = w := Option.some.inj ((hx vs h1).symm.trans hw)
      subst ex
      refine ⟨wipe1, ?_⟩
      unfold tYes
      dsimp only
      rw [if_pos rfl, wipe1s]
      have hie : i < es.length := by rw [hl]; exact hi
      refine he i _ _ (List.getElem?_eq_getElem hi) (List.getElem?_eq_getElem hie) (M ++ [A]) _ _ L.so (L.re.set (x := .d _) rw_) _ fun y H4 e4 S4 r4 => ?_
      exact L.item hA (List.getElem?_eq_getElem hie) e4 S4 r4 hz
/-- xs a tuple -/
theorem evn_lcT (h : Ev K tl ρ s (.d (.tuple ds)) (S 0)) (hl : es.length = ds.length) (hz : es.length ≤ 1000000)
    (he : ∀ (i : Nat) d e, ds[i]? = some d → es[i]? = some e → Ev K te (ρ.set n (some (.d d))) (S i ++ [es.take i]) (.d e) (S (i + 1) ++ [es.take i])) : EvN K (tLc (iTup K tl) (gName n) tYes te [n]) ρ s es (S ds.length) := fun M σ H So0 Re Q q => by
  refine h M σ H So0 Re _ fun v H1 e1 S1 r1 => ?_
  have r0 : At K (hid M H1) v (.tuple ds) := r1
  cases r0 with
  | @tup a vs _ ha hvs =>
    refine ⟨a, rfl, ⟨vs, same_t hid_same ha⟩, fun A hA => ?_⟩
    have src : ∀ {i H}, Lc K M H1 S es A σ ρ [(.ref a, .tuple ds)] i H → ∃ vs, SqT K H a vs ∧ AtAll K (hid (M ++ [A]) H) vs ds := fun {i H} L => by
      have := L.sr _ (List.mem_cons_self ..)
      have h2 : At K (hid (M ++ [A]) H) (.ref a) (.tuple ds) := this
      cases h2 with
      | tup h3 h4 => exact ⟨_, same_t hid_same h3, h4⟩
    refine lc_any (J := Itt K a) (N := ds.length) (Lc K M H1 S es A σ ρ [(.ref a, .tuple ds)]) (Lc.start S1 (Re.mono e1) (fun q hq => ?_) hA) (fun i H hi L => ?_) (fun H L => ?_) (fun i x H H' hi L hy => ?_) (fun H L => L.done hA hl e1 (back_none e1 S1 hA) q)
    · simp at hq
      subst hq
      exact r1
    · obtain ⟨vs, h1, h2⟩ := src L
      obtain ⟨w, hw, _⟩ := h2.get (List.getElem?_eq_getElem hi)
      exact ⟨vs, w, h1, hw⟩
    · obtain ⟨vs, h1, h2⟩ := src L
      exact ⟨vs, h1, by rw [h2.len]; exact Nat.le_refl _⟩
    · obtain ⟨e, hx⟩ := hy
      subst e
      obtain ⟨vs, h1, h2⟩ := src L
      obtain ⟨w, hw, rw_⟩ := h2.get (List.getElem?_eq_getElem hi)
      have ex : x = w := Option.some.inj ((hx vs h1).symm.trans hw)
      subst ex
      refine ⟨wipe1, ?_⟩
      unfold tYes
      dsimp only
      rw [if_pos rfl, wipe1s]
      have hie : i < es.length := by rw [hl]; exact hi
      refine he i _ _ (List.getElem?_eq_getElem hi) (List.getElem?_eq_getElem hie) (M ++ [A]) _ _ L.so (L.re.set (x := .d _) rw_) _ fun y H4 e4 S4 r4 => ?_
      exact L.item hA (List.getElem?_eq_getElem hie) e4 S4 r4 hz
theorem wipe2 {σ : L2.St} {n m : Nat} {v w : V} : wipe (((wipe σ [n, m]).set n (some v)).set m (some w)) [n, m] = wipe σ [n, m] := by
  show (((((σ.set m none).set n none).set n (some v)).set m (some w)).set m none).set n none = (σ.set m none).set n none
  refine List.ext_getElem? fun i => ?_
  simp only [List.getElem?_set, List.length_set]
  split <;> split <;> simp_all
theorem wipe2s {σ : L2.St} {n m : Nat} {v w : V} : ((wipe σ [n, m]).set n (some v)).set m (some w) = (σ.set n (some v)).set m (some w) := by
  show ((((σ.set m none).set n none).set n (some v)).set m (some w)) = _
  refine List.ext_getElem? fun i => ?_
  simp only [List.getElem?_set, List.length_set]
  split <;> split <;> simp_all
/-- [e for x, y in zip(xs, ys)]: two lists, or two tuples, of one length -/
theorem evn_lcZ {ta tb : TE} {fs : List PyData} {w : List PyData → PyData} (hw : w = PyData.list ∨ w = PyData.tuple) (h : Eva K (tCons ta (tCons tb tNil)) ρ s [.d (w ds), .d (w fs)] (S 0)) (hf : fs.length = ds.length) (hl : es.length = ds.length) (hz : es.length ≤ 1000000)
    (he : ∀ (i : Nat) d f e, ds[i]? = some d → fs[i]? = some f → es[i]? = some e → Ev K te ((ρ.set n (some (.d d))).set m (some (.d f))) (S i ++ [es.take i]) (.d e) (S (i + 1) ++ [es.take i])) :
    EvN K (tLc (RZ.iZipA K (tCons ta (tCons tb tNil))) (gTup K 2 (gCons (gName n) (gCons (gName m) gNil))) tYes te [n, m]) ρ s es (S ds.length) := fun M σ H So0 Re Q q => by
  unfold tLc RZ.iZipA
  refine h M σ H So0 Re _ fun vs H1 e1 S1 r1 => ?_
  cases r1 with
  | cons ra r1 =>
    cases r1 with
    | cons rb r1 =>
      cases r1
      -- the turn, once the pair is there
      have turn : ∀ {a b A T : Addr} {x y : V} {i : Nat} {H : Hp} {us ws : List V}, H1 A = none → (hi : i < ds.length) → Lc K M H1 S es A σ ρ [(.ref a, w ds), (.ref b, w fs)] i H → H T = none → AtAll K (hid (M ++ [A]) H) us ds → AtAll K (hid (M ++ [A]) H) ws fs → us[i]? = some x → ws[i]? = some y →
          gTup K 2 (gCons (gName n) (gCons (gName m) gNil)) (.ref T) (wipe σ [n, m]) (upd H T (.tup [x, y])) fun σ2 H2 => wipe σ2 [n, m] = wipe σ [n, m] ∧ tYes σ2 H2 fun bb H3 =>
            if bb = true then te σ2 H3 fun y H4 => ∃ acc, H4 A = some (.lst acc) ∧ acc.length < sizeLine ∧ Lc K M H1 S es A σ ρ [(.ref a, w ds), (.ref b, w fs)] (i + 1) (upd H4 A (.lst (acc ++ [y]))) else Lc K M H1 S es A σ ρ [(.ref a, w ds), (.ref b, w fs)] (i + 1) H3 := by
        intro a b A T x y i H us ws hA hi L hT au aw hx hy
        obtain ⟨x', hx', rx⟩ := au.get (List.getElem?_eq_getElem hi)
        have hif : i < fs.length := by rw [hf]; exact hi
        obtain ⟨y', hy', ry⟩ := aw.get (List.getElem?_eq_getElem hif)
        rw [hx] at hx'; cases hx'
        rw [hy] at hy'; cases hy'
        have hie : i < es.length := by rw [hl]; exact hi
        refine ⟨T, [x, y], rfl, SqT.of upd_same, rfl, x, [y], rfl, y, [], rfl, rfl, wipe2, ?_⟩
        unfold tYes
        dsimp only
        rw [if_pos rfl, wipe2s]
        have eT : Same (hid (M ++ [A]) H) (hid (M ++ [A]) (upd H T (.tup [x, y]))) := hid_new hT
        refine he i _ _ _ (List.getElem?_eq_getElem hi) (List.getElem?_eq_getElem hif) (List.getElem?_eq_getElem hie) (M ++ [A]) _ _ (L.so.new hT) (((L.re.mono eT).set (x := .d _) (At.mono eT _ _ rx)).set (x := .d _) (At.mono eT _ _ ry)) _ fun z H4 e4 S4 r4 => ?_
        have L2 : Lc K M H1 S es A σ ρ [(.ref a, w ds), (.ref b, w fs)] i (upd H T (.tup [x, y])) := by
          refine ⟨L.so.new hT, ?_, L.re.mono eT, fun q hq => At.mono eT _ _ (L.sr q hq)⟩
          exact L.sm.trans (hid_new hT)
        exact L2.item hA (List.getElem?_eq_getElem hie) e4 S4 r4 hz
      rcases hw with hw | hw
      · subst hw
        have ra' : At K (hid M H1) _ (.list ds) := ra
        have rb' : At K (hid M H1) _ (.list fs) := rb
        cases ra' with
        | @lst a us _ ha hus =>
          cases rb' with
          | @lst b ws _ hb hws =>
            refine ⟨a, b, us, ws, rfl, .inl ⟨SqL.of (hid_some ha).2, SqL.of (hid_some hb).2, fun A hA => ?_⟩⟩
            have src : ∀ {i H}, Lc K M H1 S es A σ ρ [(.ref a, .list ds), (.ref b, .list fs)] i H → ∃ us ws, SqL K H a us ∧ SqL K H b ws ∧ AtAll K (hid (M ++ [A]) H) us ds ∧ AtAll K (hid (M ++ [A]) H) ws fs := fun {i H} L => by
              have h1 : At K (hid (M ++ [A]) H) (.ref a) (.list ds) := L.sr _ (List.mem_cons_self ..)
              have h2 : At K (hid (M ++ [A]) H) (.ref b) (.list fs) := L.sr (.ref b, .list fs) (by simp)
              cases h1 with
              | lst h3 h4 =>
                cases h2 with
                | lst h5 h6 => exact ⟨_, _, SqL.of (hid_some h3).2, SqL.of (hid_some h5).2, h4, h6⟩
            refine lc_any (J := Itz K a b) (N := ds.length) (Lc K M H1 S es A σ ρ [(.ref a, .list ds), (.ref b, .list fs)]) (Lc.start S1 (Re.mono e1) (fun q hq => ?_) hA) (fun i H hi L => ?_) (fun H L => ?_) (fun i x H H' hi L hy => ?_) (fun H L => L.done hA hl e1 (back_none e1 S1 hA) q)
            · simp at hq
              rcases hq with hq | hq
              · subst hq; exact ra
              · subst hq; exact rb
            · obtain ⟨us, ws, h1, h2, h3, h4⟩ := src L
              obtain ⟨x, hx, _⟩ := h3.get (List.getElem?_eq_getElem hi)
              obtain ⟨y, hy, _⟩ := h4.get (List.getElem?_eq_getElem (show i < fs.length by rw [hf]; exact hi))
              exact ⟨us, ws, x, y, h1, h2, hx, hy⟩
            · obtain ⟨us, ws, h1, h2, h3, h4⟩ := src L
              exact ⟨us, ws, h1, h2, .inl (by rw [h3.len]; exact Nat.le_refl _)⟩
            · obtain ⟨T, x1, y1, rfl, hT, rfl, f1, f2⟩ := hy
              obtain ⟨us, ws, h1, h2, h3, h4⟩ := src L
              exact turn hA hi L hT h3 h4 (f1 us h1) (f2 ws h2)
      · subst hw
        have ra' : At K (hid M H1) _ (.tuple ds) := ra
        have rb' : At K (hid M H1) _ (.tuple fs) := rb
        cases ra' with
        | @tup a us _ ha hus =>
          cases rb' with
          | @tup b ws _ hb hws =>
            refine ⟨a, b, us, ws, rfl, .inr ⟨same_t hid_same ha, same_t hid_same hb, fun A hA => ?_⟩⟩
            have src : ∀ {i H}, Lc K M H1 S es A σ ρ [(.ref a, .tuple ds), (.ref b, .tuple fs)] i H → ∃ us ws, SqT K H a us ∧ SqT K H b ws ∧ AtAll K (hid (M ++ [A]) H) us ds ∧ AtAll K (hid (M ++ [A]) H) ws fs := fun {i H} L => by
              have h1 : At K (hid (M ++ [A]) H) (.ref a) (.tuple ds) := L.sr _ (List.mem_cons_self ..)
              have h2 : At K (hid (M ++ [A]) H) (.ref b) (.tuple fs) := L.sr (.ref b, .tuple fs) (by simp)
              cases h1 with
              | tup h3 h4 =>
                cases h2 with
                | tup h5 h6 => exact ⟨_, _, same_t hid_same h3, same_t hid_same h5, h4, h6⟩
            refine lc_any (J := RZ.ItzT K a b) (N := ds.length) (Lc K M H1 S es A σ ρ [(.ref a, .tuple ds), (.ref b, .tuple fs)]) (Lc.start S1 (Re.mono e1) (fun q hq => ?_) hA) (fun i H hi L => ?_) (fun H L => ?_) (fun i x H H' hi L hy => ?_) (fun H L => L.done hA hl e1 (back_none e1 S1 hA) q)
            · simp at hq
              rcases hq with hq | hq
              · subst hq; exact ra
              · subst hq; exact rb
            · obtain ⟨us, ws, h1, h2, h3, h4⟩ := src L
              obtain ⟨x, hx, _⟩ := h3.get (List.getElem?_eq_getElem hi)
              obtain ⟨y, hy, _⟩ := h4.get (List.getElem?_eq_getElem (show i < fs.length by rw [hf]; exact hi))
              exact ⟨us, ws, x, y, h1, h2, hx, hy⟩
            · obtain ⟨us, ws, h1, h2, h3, h4⟩ := src L
              exact ⟨us, ws, h1, h2, .inl (by rw [h3.len]; exact Nat.le_refl _)⟩
            · obtain ⟨T, x1, y1, rfl, hT, rfl, f1, f2⟩ := hy
              obtain ⟨us, ws, h1, h2, h3, h4⟩ := src L
              exact turn hA hi L hT h3 h4 (f1 us h1) (f2 ws h2)

/-! ## a def's start -/
def rho0 (N : List Str) (xs : List Dx) : En := xs.map some ++ List.replicate (N.length - xs.length) none
theorem re_start {N : List Str} {vs : List V} (r : RXs K M H vs xs) : RE K M H (L2.start N vs) (rho0 N xs) := by
  have hl := r.len
  refine ⟨by unfold L2.start rho0; simp [hl], fun i x hx => ?_⟩
  unfold rho0 at hx
  unfold L2.start
  by_cases c : i < xs.length
  · rw [List.getElem?_append_left (by simpa using c), List.getElem?_map] at hx
    have : ∀ {vs : List V} {xs : List Dx} {i : Nat}, RXs K M H vs xs → (xs[i]?).map some = some (some x) → ∃ v, vs[i]? = some v ∧ RX K M H v x := fun {vs xs i} r => by
      induction r generalizing i with
      | nil => intro h; simp at h
      | cons h t ih =>
        intro hx
        cases i with
        | zero => simp at hx; subst hx; exact ⟨_, rfl, h⟩
        | succ i => exact ih (i := i) (by simpa using hx)
    obtain ⟨v, h1, h2⟩ := this r hx
    exact ⟨v, by rw [List.getElem?_append_left (by simpa using (List.getElem?_eq_some_iff.mp h1).1), List.getElem?_map, h1]; rfl, h2⟩
  · rw [List.getElem?_append_right (by simpa using c), List.getElem?_replicate] at hx
    split at hx <;> cases hx
theorem w_run {N : List Str} {vs : List V} {P : L2.St → Hp → Prop} (hS : So K M s H) (r : RXs K M H vs xs) (h : W K M H [] P (rho0 N xs) s) : P (L2.start N vs) H :=
  h M _ H ⟨⟨[], (List.append_nil M).symm, fun _ h => by cases h⟩, Same.refl _, hS, re_start r, fun _ h => by cases h⟩
end
end Pw
namespace Pw
open PySem L2
/-! ## defs as they are called -/
section
variable {P : Program} {w : World} {K : Fg} {mg : Str → Option Value} {base : Heap} {X : Cx}
/-- a def known by its promise, all its arguments written -/
structure Cb (P : Program) (w : World) (K : Fg) (mg : Str → Option Value) (base : Heap) (x : Str) (lv : Nat) (dvs : List V) (sp : Sp) : Prop where
  ex : ∃ (f : Addr) (fd : FuncData) (ps : List Str) (ds : List Value), mg x = some (.ref f) ∧ PySem.W.keepIn K (.ref f) = true ∧ FnOk P w K mg base CX0 lv f fd ps sp ∧ Binds K fd ps ds ∧ Vals dvs ds
/-- .. by keywords alone -/
structure Ck (P : Program) (w : World) (K : Fg) (mg : Str → Option Value) (base : Heap) (x : Str) (lv : Nat) (ks : List Str) (g : {α : Type} → List α → List α) (sp : Sp) : Prop where
  ex : ∃ (f : Addr) (fd : FuncData) (ps : List Str) (g' : List Value → List Value → List Value), mg x = some (.ref f) ∧ PySem.W.keepIn K (.ref f) = true ∧ FnOk P w K mg base CX0 lv f fd ps sp ∧ KBn K fd ps 0 ks g' (fun _ zs => g zs)
theorem pe_cb {fx : Str} {lv : Nat} {dvs : List V} {sp : Sp} {p pos : Pos} {e : Expr} {es : List Expr} {t : TA} (C : Cb X.prog X.w X.K X.mg X.base fx lv dvs sp) (hr : Room lv X.A) (hg : Gl X fx) (ha : PA X (e :: es) t)
    (hdb : (fx == ("__debug__" : Str)) = false := by decide) (he : starEach (e :: es) X.env = (false, eval e X.env) :: starEach es X.env := by rfl)
    (hpl : (backTo pos (starEach es X.env)).any (·.1) = false := by rfl) : PE X (.Call (.Name fx p) (e :: es) [] pos) (tCall sp dvs E0 t) := by
  obtain ⟨f, fd, ps, ds, h1, h2, h3, h4, h5⟩ := C.ex
  exact pe_call h3 hr hg h1 h2 h4 h5 pass0 ha hdb he hpl
theorem pe_ck {fx : Str} {lv : Nat} {ks : List Str} {g : {α : Type} → List α → List α} {sp : Sp} {p pos : Pos} {kws : List Keyword} {tk : TA} (C : Ck X.prog X.w X.K X.mg X.base fx lv ks g sp) (hr : Room lv X.A) (hg : Gl X fx) (hkw : PK X kws tk)
    (hall : (backToKw pos (keywordEach kws X.env)).all (·.1.isSome) = true := by rfl)
    (hks : (backToKw pos (keywordEach kws X.env)).filterMap (·.1) = ks := by rfl)
    (hdb : (fx == ("__debug__" : Str)) = false := by decide)
    (hpl : ((backTo pos (starEach [] X.env)).any (·.1) || (backToKw pos (keywordEach kws X.env)).any (·.1.isNone)) = false := by rfl) :
    PE X (.Call (.Name fx p) [] kws pos) (tCallN 0 ks.length sp (fun _ zs => g zs) E0 tNil tk) := by
  obtain ⟨f, fd, ps, g', h1, h2, h3, h4⟩ := C.ex
  exact pe_kw h3 hr hg h1 h2 h4 pass0 hkw hall hks hdb hpl
def swap2 {α : Type} : List α → List α
  | [a, b] => [b, a]
  | l => l
def same1 {α : Type} (l : List α) : List α := l
theorem vals_swap2 {zs : List V} {ws : List Value} (h : Vals zs ws) : Vals (swap2 zs) (swap2 ws) := by
  cases h with
  | nil => exact .nil
  | cons h t =>
    cases t with
    | nil => exact .cons h .nil
    | cons h2 t =>
      cases t with
      | nil => exact .cons h2 (.cons h .nil)
      | cons h3 t => exact .cons h (.cons h2 (.cons h3 t))
theorem vals_same1 {zs : List V} {ws : List Value} (h : Vals zs ws) : Vals (same1 zs) (same1 ws) := h
theorem rxs_swap2 {M : List Addr} {H : Hp} {a b : Dx} {zs : List V} (h : RXs K M H zs [a, b]) : RXs K M H (swap2 zs) [b, a] := by
  cases h with
  | cons h t =>
    cases t with
    | cons h2 t =>
      cases t
      exact .cons h2 (.cons h .nil)
theorem rxs_same1 {M : List Addr} {H : Hp} {xs : List Dx} {zs : List V} (h : RXs K M H zs xs) : RXs K M H (same1 zs) xs := h
section
variable {nm qual : Str} {st : Stmt} {f : Addr} {fd : FuncData} {ps ks : List Str} {lv : Nat} {sp : Sp} {g : {α : Type} → List α → List α}
theorem cb_mk (G : Fun K nm qual st f fd) (hm : mg nm = some (.ref f)) (O : FnOk P w K mg base CX0 lv f fd ps sp)
    (h : ∀ (kV doc pm : Value) (an : Option Addr) (cdv ct : Value) (us : List Value), us.length = ps.length → bindArgs (PySem.W.fnOf nm qual (defArgs st) (defBody st) (defScope st) .none kV doc pm an cdv ct) ⟨us, []⟩ = pure (ps.zip us)) : Cb P w K mg base nm lv [] sp :=
  ⟨f, fd, ps, [], hm, G.kp, O, G.binds h, .nil⟩
theorem ck_mk (G : Fun K nm qual st f fd) (hm : mg nm = some (.ref f)) (O : FnOk P w K mg base CX0 lv f fd ps sp) (hrel : ∀ {zs : List V} {ws : List Value}, Vals zs ws → Vals (g zs) (g ws))
    (h : ∀ (kV doc pm : Value) (an : Option Addr) (cdv ct : Value) (ws : List Value), ws.length = ks.length → bindArgs (PySem.W.fnOf nm qual (defArgs st) (defBody st) (defScope st) .none kV doc pm an cdv ct) ⟨[], ks.zip ws⟩ = pure (ps.zip (g ws))) : Ck P w K mg base nm lv ks g sp :=
  ⟨f, fd, ps, _, hm, G.kp, O, kb_of G (fun _ r => hrel r) h (fun _ r => hrel r)⟩
/-- a def with defaults -/
theorem ckD_mk {dvs : List V} (G : FunD K nm qual (defArgs st) (defBody st) (defScope st) dvs [] f fd) (hd : dvs ≠ []) (hm : mg nm = some (.ref f)) (O : FnOk P w K mg base CX0 lv f fd ps sp) (hrel : ∀ {zs : List V} {ws : List Value}, Vals zs ws → Vals (g zs) (g ws))
    (h : ∀ (T : Addr) (kV doc pm : Value) (an : Option Addr) (cdv ct : Value) (ws its : List Value), ws.length = ks.length → its.length = dvs.length →
      ∃ k, bindArgs (PySem.W.fnOf nm qual (defArgs st) (defBody st) (defScope st) (.ref T) kV doc pm an cdv ct) ⟨[], ks.zip ws⟩ = seqItems? (.ref T) >>= k ∧ k (some its.toArray) = pure (ps.zip (g ws))) : Ck P w K mg base nm lv ks g sp := by
  obtain ⟨oc, od, dV, kV, doc, pm, an, cdv, ct, osl, rfl, lk, hcd, hD, hK⟩ := G.ex
  rcases hD with ⟨e, _⟩ | ⟨_, T, o, its, m, rfl, lT, oT, rT⟩
  · exact absurd e hd
  · refine ⟨f, _, ps, fun _ ws => g ws, hm, G.kp, O, ⟨fun s us ws Xs l1 l2 => ?_, fun _ r => hrel r⟩⟩
    have e : us = [] := List.eq_nil_of_length_eq_zero l1
    subst e
    obtain ⟨k, e1, e2⟩ := h T kV doc pm an cdv ct ws its l2 rT.length.symm
    refine BindsTo.of_looks fun M => ?_
    rw [e1]
    exact looks_items Xs lT oT (PySem.W.Looks.of_pure e2)
theorem cbD_mk {dvs : List V} (n j : Nat) (G : FunD K nm qual (defArgs st) (defBody st) (defScope st) dvs [] f fd) (hd : dvs ≠ []) (hn : n + (dvs.length - j) = ps.length) (hm : mg nm = some (.ref f)) (O : FnOk P w K mg base CX0 lv f fd ps sp)
    (h : ∀ (T : Addr) (kV doc pm : Value) (an : Option Addr) (cdv ct : Value) (us its : List Value), us.length = n → its.length = dvs.length →
      ∃ k, bindArgs (PySem.W.fnOf nm qual (defArgs st) (defBody st) (defScope st) (.ref T) kV doc pm an cdv ct) ⟨us, []⟩ = seqItems? (.ref T) >>= k ∧ k (some its.toArray) = pure (ps.zip (us ++ its.drop j))) : Cb P w K mg base nm lv (dvs.drop j) sp := by
  obtain ⟨ds, h1, h2⟩ := G.binds1 n j hd hn h
  exact ⟨f, fd, ps, ds, hm, G.kp, O, h2, h1⟩
end
end

/-! ## the law's own def, run where no repr is under way -/
section
open PySem.W PySem.Spec PyProof.Rows
variable {P : Program} {w : World} {K : Fg} {mg mb : Str → Option Value}
/-- where the script stands -/
def scrH (K : Fg) (a : Addr) (vs : List Value) (ns : List Int) : Hp := match K.lookup a with
  | some _ => fun _ => none
  | none => fun b => if b = a then some (.frz { cls := .type "list", data := .seq vs.toArray } (.lst (ns.map V.int))) else none
theorem scr_sq {a : Addr} {vs : List Value} {ns : List Int} {h : Heap} (KX : K.In h) (ha : h.get? a = some { cls := .type "list", data := .seq vs.toArray }) (rv : Vals (ns.map V.int) vs) (hl : ns.length ≤ sizeLine) : SqL K (scrH K a vs ns) a (ns.map V.int) := by
  unfold scrH
  cases hk : K.lookup a with
  | some o =>
    have e := KX a o hk
    rw [ha] at e
    cases e
    have l := rv.length
    rw [List.length_map] at l
    exact .inr ⟨_, vs.toArray, _, hk, rfl, rfl, rfl, by rw [List.size_toArray, ← l]; exact hl, by simpa using rv⟩
  | none => exact .inl (.inr ⟨_, if_pos rfl⟩)
theorem scr_only {a : Addr} {vs : List Value} {ns : List Int} {b : Addr} {u : HO} (e : scrH K a vs ns b = some u) : b = a ∧ K.lookup a = none ∧ u = .frz { cls := .type "list", data := .seq vs.toArray } (.lst (ns.map V.int)) := by
  unfold scrH at e
  cases hk : K.lookup a with
  | some o => rw [hk] at e; cases e
  | none =>
    rw [hk] at e
    have e' : (if b = a then some (HO.frz { cls := .type "list", data := .seq vs.toArray } (.lst (ns.map V.int))) else none) = some u := e
    by_cases c : b = a
    · rw [if_pos c] at e'
      cases e'
      exact ⟨c, rfl, rfl⟩
    · rw [if_neg c] at e'
      cases e'
theorem law_at {fa a : Addr} {qual : Str} {st : Stmt} {fd : FuncData} {x nm : Str} {N : List Str} {k : Nat} {s₁ : Shared} {vs : List Value} {ns : List Int} (KX : K.In s₁.heap) (hns : s₁.heap.Ns mainGlobals mg) (hb : s₁.heap.Ns builtinsNs mb)
    (hbb : ∀ y : Str, y ≠ "__name__" → mb y = bootBuiltins y) (hlim : s₁.heap.NoLimit) (hgn : s₁.gens = #[]) (ha : s₁.heap.get? a = some { cls := .type "list", data := .seq vs.toArray }) (hi : IntsAre vs ns) (hl : ns.length ≤ sizeLine)
    (hr : Room (k + 1) callerA) (G : Fun K nm qual st fa fd) (S : FnScope N [x] (defScope st)) (hbind : ∀ (s : Shared) (u : Value), BindsTo s fd ⟨[u], []⟩ [(x, u)])
    (hbody : ∀ (base : Heap) (cdv : Value) (s : Shared) (H : Hp), K.In base → base.Ns mainGlobals mg → Room k (callerA.deeper (envOfC qual (defScope st) s.heap.objs.size fa cdv)) → SqL K H a (ns.map V.int) →
      ∃ t, PSs (cxOf CX0 P w K mg base N qual (defScope st) fa cdv callerA [] s H E0).nox (defBody st) t ∧ t { nx := fun _ _ => False, rt := fun v _ => v = .bl true } (L2.start N [.ref a]) H) :
    codeAny (model P w) callerA (.call (.ref fa) ⟨[.ref a], []⟩) (fun r s' => r = .ok (.ret (.bool true)) ∧ OldK s₁.heap s'.heap ∧ s'.os = s₁.os ∧ AllBare s'.gens) s₁ := by
  have rv := vals_ints hi
  obtain ⟨oc, od, kV, doc, pm, an, cdv, ct, osl, rfl, lk, hcd⟩ := G.ex
  let H : Hp := scrH K a vs ns
  have hSq : SqL K H a (ns.map V.int) := scr_sq KX ha rv hl
  have hA : ∀ {b : Addr} {u : HO}, H b = some u → b = a ∧ K.lookup a = none ∧ u = .frz { cls := .type "list", data := .seq vs.toArray } (.lst (ns.map V.int)) := fun e => scr_only e
  have hok : HOk P w H s₁.heap := fun b u e => by
    obtain ⟨e1, _, e2⟩ := hA e
    subst e1 e2
    exact ⟨ha, by rw [List.length_map]; exact hl, vs, _, rv, ha⟩
  have keepH : ∀ {b : Addr} {o : Obj}, s₁.heap.get? b = some o → H b = none → (hidT s₁.heap H).get? b = some o := fun e n => hidT_get e n
  have noDict : ∀ {b : Addr} {o : Obj} {es : Array DictEntry} {ep : Nat}, s₁.heap.get? b = some o → o.data = .dict es ep → H b = none := fun {b o es ep} e d => by
    cases q : H b with
    | none => rfl
    | some u =>
      obtain ⟨e1, _, _⟩ := hA q
      rw [e1, ha] at e
      cases e
      exact nomatch d
  have nsH : ∀ {b : Addr} {m : Str → Option Value}, s₁.heap.Ns b m → (hidT s₁.heap H).Ns b m := fun ⟨o, es, ep, e, d, r⟩ => ⟨o, es, ep, keepH e (noDict e d), d, r⟩
  have hKb : K.In (hidT s₁.heap H) := fun b o e => keepH (KX b o e) (by
    cases q : H b with
    | none => rfl
    | some u =>
      obtain ⟨e1, e2, _⟩ := hA q
      rw [e1, e2] at e
      cases e)
  have hM : Mod K mg (hidT s₁.heap H) := ⟨hKb, nsH hns, ⟨mb, nsH hb, hbb⟩, let ⟨mc, h1, h2⟩ := hlim; ⟨mc, nsH h1, h2⟩⟩
  have e0 : Env0 P w K mg (hidT s₁.heap H) callerA [] s₁ H := ⟨rfl, hM, fun b o e => of_hidT e, Nat.le_of_eq (hidT_size _ _), trivial, fun b z => (by cases (show b ∈ ([] : List Addr) from z)), hok, .of_eq hgn⟩
  have hkind : ∀ y ∈ ([x] : List Str).zip [Value.ref a], (defScope st).names.lookup y.1 = some .local ∨ ((defScope st).names.lookup y.1 = some .cell ∧ ((cellsFrom (s₁.heap.objs.size + 1) (defScope st).names []).lookup y.1).isSome = true) := fun ⟨y, v⟩ hy =>
    (S.par y (List.of_mem_zip hy).1).imp (fun q => q) fun q => ⟨q, PySem.W.cellsFrom_some _ _ _ (.inl q)⟩
  refine codeAny_call_function hr.depth (KX _ _ lk) rfl S.co S.gen rfl (PySem.W.codeRec_of KX hcd) (hbind s₁ (.ref a) _ _ _ _ ?_)
  refine wpAny_newFunctionEnv_cells S.kind hkind fun env he s1 xx => ?_
  subst he
  refine ⟨hlim.keeps xx.toInCall.keep, codeAny_func ?_⟩
  obtain ⟨t, ht, hq⟩ := hbody (hidT s₁.heap H) cdv s₁ H hKb (nsH hns) (hr.deeper _) hSq
  have I : Inv (cxOf CX0 P w K mg (hidT s₁.heap H) N qual (defScope st) fa cdv callerA [] s₁ H E0) [] (L2.start N [.ref a]) H s1 := inv_start S hr.hd e0 rfl (.cons rfl .nil) xx
  refine wpAny_mono (ht.nox.run [] s1 _ H _ I hq) (fun fl s' hs => ?_) fun e s' hs => ?_
  · cases fl with
    | ret u =>
      obtain ⟨v, σ', H', J, ru, q⟩ := hs
      have q' : v = .bl true := q
      subst q'
      cases (show u = Value.bool true from ru)
      refine ⟨rfl, OldK.of_keep fun b o e => ?_, J.os, J.bare⟩
      cases q : H b with
      | none => exact J.base.keep b o e q (fun z => by cases (show b ∈ ([] : List Addr) from z)) (fun z => by cases (show b ∈ ([] : List Addr) from z))
      | some u =>
        obtain ⟨e1, _, e2⟩ := hA q
        subst e1 e2
        obtain ⟨e3, _⟩ := J.hok _ _ (J.base.frzs _ _ _ q)
        rw [ha] at e
        cases e
        exact e3
    | next => obtain ⟨_, _, _, q⟩ := hs; exact q.elim
    | brk => obtain ⟨_, _, _, q⟩ := hs; exact (show False from q).elim
    | cont => obtain ⟨_, _, _, q⟩ := hs; exact (show False from q).elim
  · exact wpAny_mono hs (fun _ _ z => (show False from z).elim) fun _ _ z => (show False from z).elim
end

/-! ## repr -/
section
variable {X : Cx} {K : Fg} {s : Sto}
theorem cb_repr (hg : X.A.guards = some []) (hu : X.A.units + 64 < cLine) : CallR X (.builtin "repr") (rRepr X.K) := by
  intro pins s σ H xs us Q I r h
  obtain ⟨x, d, rfl, hd, h1, h2, h3, h4, q⟩ := h
  obtain ⟨u, rfl, ru⟩ := vals1 r
  obtain ⟨as, hr⟩ := Dp.reads I d x u hd ru
  cases hr with
  | none => exact PySem.P.repr_of_none ⟨.str _, H, I.tok _, ⟨_, rfl⟩, q⟩
  | bool b => exact PySem.P.repr_of_bool ⟨.str _, H, I.tok _, ⟨_, rfl⟩, q⟩
  | int i t => exact PySem.P.repr_of_int (of_decide_eq_true h1) ⟨.str _, H, I.tok _, ⟨_, rfl⟩, q⟩
  | str z t => exact PySem.P.repr_of_str ⟨.str _, H, I.tok _, ⟨_, rfl⟩, q⟩ h4
  | @list a o vs n ys as g1 g2 g3 g4 =>
    exact PySem.repr_of_reads' (.list g1 g2 g3 g4) h1 (PyData.noDict_hsm h2) hg (by omega) (fun _ _ e => e) (fun h' u tk hk => ⟨.str _, H, I.kept hk, ⟨_, rfl⟩, q⟩) h4
  | @tuple a o vs n ys as g1 g2 g3 g4 =>
    exact PySem.repr_of_reads' (.tuple g1 g2 g3 g4) h1 (PyData.noDict_hsm h2) hg (by omega) (fun _ _ e => e) (fun h' u tk hk => ⟨.str _, H, I.kept hk, ⟨_, rfl⟩, q⟩) h4
  | dict g1 g2 g3 g4 g5 => simp [PyData.hasDict] at h2
theorem o_repr {d : PyData} (h1 : PyData.showable d = true) (h2 : PyData.hasDict d = false) (h3 : d.depth ≤ 60) (h4 : d.shown.length ≤ 16000000) : OpC K (rRepr K) [.d d] s (.d (.str d.shown)) s := fun M H vs S r Q q => by
  cases r with
  | cons h t =>
    cases t
    exact ⟨_, d, rfl, At.dp _ _ (At.mono hid_same _ _ h), h1, h2, h3, Nat.le_trans h4 (by decide), q.here S (.str _)⟩
end
/-! ## slices -/
section
variable {X : Cx} {K : Fg} {s s1 s2 s3 : Sto} {ρ : En} {te : TE} {tl th : TO} {x : Dx}
theorem SlR.or {r r' : V → Option Int → Option Int → Hp → VK → Prop} (h : SlR X r) (h' : SlR X r') : SlR X (fun x lo hi H Q => r x lo hi H Q ∨ r' x lo hi H Q) := fun pins s σ H x v vl vu lo hi sl Q I rx hs pl pu q =>
  q.elim (h pins s σ H x v vl vu lo hi sl Q I rx hs pl pu) (h' pins s σ H x v vl vu lo hi sl Q I rx hs pl pu)
def EvO (K : Fg) (to : TO) (ρ : En) (s : Sto) (o : Option Int) (s' : Sto) : Prop := ∀ M σ H, So K M s H → RE K M H σ ρ → ∀ Q : Option Int → Hp → Prop, (∀ H', Same (hid M H) (hid M H') → So K M s' H' → Q o H') → to σ H Q
theorem eo_none : EvO K tNoPart ρ s none s := fun M σ H S R Q q => q H (Same.refl _) S
theorem eo_some {i : Int} (h : Ev K te ρ s (.d (.int i)) s1) : EvO K (tPart te) ρ s (some i) s1 := fun M σ H S R Q q => h M σ H S R _ fun v H1 e S1 r => by
  cases r
  exact ⟨i, rfl, q H1 e S1⟩
/-- t[lo:hi], t a tuple -/
theorem cut_all {α : Type} (xs : List α) (a b : Nat) (h : a = 0 ∧ b = xs.length) : (xs.drop a).take (b - a) = xs := by
  obtain ⟨rfl, rfl⟩ := h
  simp
def cutD (ds : List PyData) (lo hi : Option Int) : List PyData := (ds.drop (HT.sIx ds.length 0 lo)).take (HT.sIx ds.length ds.length hi - HT.sIx ds.length 0 lo)
theorem ev_slT {ds : List PyData} {lo hi : Option Int} (h : Ev K te ρ s (.d (.tuple ds)) s1) (h1 : EvO K tl ρ s1 lo s2) (h2 : EvO K th ρ s2 hi s3) : Ev K (tSl (rSlA K) te tl th) ρ s (.d (.tuple (cutD ds lo hi))) s3 := fun M σ H S R Q q =>
  h M σ H S R _ fun v H1 e1 S1 r => h1 M σ H1 S1 (R.mono e1) _ fun H2 e2 S2 => h2 M σ H2 S2 (R.mono (e1.trans e2)) _ fun H3 e3 S3 => by
    have r' : At K (hid M H3) v (.tuple ds) := At.mono (e2.trans e3) _ _ r
    have q3 := q.step ((e1.trans e2).trans e3)
    cases r' with
    | @tup a xs _ g a1 =>
      refine ⟨a, xs, rfl, same_t hid_same g, fun z => ?_, fun z p hp => ?_⟩
      · refine q3.here S3 ?_
        have e : cutD ds lo hi = ds := by
          unfold cutD
          refine cut_all _ _ _ ?_
          rw [← a1.len]
          exact z
        rw [e]
        exact .tup g a1
      · refine q3 _ _ (hid_new hp) (S3.new hp) (At.tup (xs := cutV xs lo hi) (SqT.of ?_) (AtAll.mono (hid_new hp) _ _ ?_))
        · rw [hid_out (S3.free hp)]
          exact upd_same
        · unfold cutV cutD
          rw [← a1.len]
          exact AtAll.take _ (AtAll.drop _ a1)
end
end Pw
namespace Pw
open PySem L2
section
variable {P : Program} {w : World} {K : Fg} {mg : Str → Option Value} {base : Heap} {ρ : En} {s s1 s2 s3 : Sto} {x y z : Dx} {xs ys zs : List Dx} {ta tb te : TE} {tas tks : TA} {t u : TT} {b c : Bool} {i j : Int} {ds es : List PyData}
theorem cx_K {CX : CXT} {N : List Str} {qual : Str} {sc : Scope} {f : Addr} {cd : Value} {A : Around} {outer : List Env} {s : Shared} {H : Hp} {E : XK} : (cxOf CX P w K mg base N qual sc f cd A outer s H E).K = K := rfl
theorem nox_K {CX : CXT} {N : List Str} {qual : Str} {sc : Scope} {f : Addr} {cd : Value} {A : Around} {outer : List Env} {s : Shared} {H : Hp} {E : XK} : (cxOf CX P w K mg base N qual sc f cd A outer s H E).nox.K = K := rfl
theorem okr_0 {M0 : List Addr} {H0 : Hp} {Q : VK} {d : PyData} {s : Sto} (q : Okk K M0 s (.d d) H0 Q) (hl : s.length = M0.length) : Okr K M0 H0 (.d d) s Q := by
  have h := okr_d (t := []) q hl
  rw [List.append_nil] at h
  exact h
theorem Okr.is {M0 : List Addr} {H0 : Hp} {Q : VK} {x x' : Dx} {s : Sto} (h : Okr K M0 H0 x s Q) (e : x' = x) : Okr K M0 H0 x' s Q := e ▸ h
inductive Und : List Dx → List PyData → Prop
  | nil : Und [] []
  | cons {d xs ds} : Und xs ds → Und (.d d :: xs) (d :: ds)
theorem Und.map : ∀ {xs : List Dx} {ds : List PyData}, Und xs ds → xs = ds.map Dx.d
  | _, _, .nil => rfl
  | _, _, .cons h => by rw [List.map_cons, ← h.map]
theorem ev_tupU (h : Eva K tas ρ s xs s1) (hu : Und xs ds) (hl : ds.length ≤ 100000) : Ev K (tTup tas) ρ s (.d (.tuple ds)) s1 := ev_tup (hu.map ▸ h) hl
theorem evn_lstU (h : Eva K tas ρ s xs s1) (hu : Und xs ds) (hl : ds.length ≤ 100000) : EvN K (tLst tas) ρ s ds s1 := evn_lst (hu.map ▸ h) hl
theorem et_or1 (h1 : EvT K t ρ s true s1) : EvT K (tOr t u) ρ s true s1 := fun M σ H S R Q q => h1 M σ H S R _ fun H1 e S1 => q H1 e S1
theorem et_and0 (h1 : EvT K t ρ s false s1) : EvT K (tAnd t u) ρ s false s1 := fun M σ H S R Q q => h1 M σ H S R _ fun H1 e S1 => q H1 e S1
theorem ev_and0 (h1 : Ev K ta ρ s (.d (.bool false)) s1) : Ev K (tAndV ta tb) ρ s (.d (.bool false)) s1 := fun M σ H S R Q q => h1 M σ H S R _ fun v H1 e S1 r => by
  cases r
  exact ⟨false, rfl, q _ H1 e S1 (.bl false)⟩
theorem o_repI (h : ds.length * j.toNat ≤ 1000000) (h0 : 0 ≤ j) (h2 : j ≤ 1000000) : Op2N K rTimes (.d (.list ds)) (.d (.int j)) s (List.replicate j.toNat ds).flatten s := by
  have e : j = ((j.toNat : Nat) : Int) := (Int.toNat_of_nonneg h0).symm
  have := o_rep (K := K) (s := s) (ds := ds) (n := j.toNat) h (by omega)
  rw [← e] at this
  exact this
theorem o_neS {a b : Str} : Op2 K rNe (.d (.str a)) (.d (.str b)) s (.d (.bool (!decide (V.str a = V.str b)))) s := fun M H v w S r1 r2 Q q => by
  cases r1; cases r2
  exact ⟨rfl, q.here S (.bl _)⟩
theorem o_eqS {a b : Str} : Op2 K rEq (.d (.str a)) (.d (.str b)) s (.d (.bool (decide (V.str a = V.str b)))) s := fun M H v w S r1 r2 Q q => by
  cases r1; cases r2
  exact ⟨rfl, q.here S (.bl _)⟩
theorem w_at {M0 : List Addr} {H0 : Hp} {F : Kp} {P : L2.St → Hp → Prop} {ρ' : En} {s' : Sto} (h : W K M0 H0 F P ρ' s') (hρ : ρ = ρ' := by rfl) (hs : s = s' := by rfl) : W K M0 H0 F P ρ s := hρ ▸ hs ▸ h
theorem so_nil {H : Hp} : So K [] [] H := ⟨List.nodup_nil, rfl, fun k p ds e => by simp at e⟩
theorem hid_nil {H : Hp} : hid [] H = H := by
  funext a
  exact hid_out (by simp)
theorem rxs_scr {H : Hp} {a : Addr} {ns : List Int} (h : SqL K H a (ns.map V.int)) : RXs K [] H [.ref a] [.scr ns] := .cons ⟨a, rfl, by rw [hid_nil]; exact h⟩ .nil
theorem okr_true {H : Hp} {s : Sto} : Okr K [] H (.d (.bool true)) s (fun v _ => v = .bl true) := fun M v H' _ _ _ r => by
  cases r
  rfl
theorem rxs_1 {M : List Addr} {H : Hp} {i : Int} : RXs K M H [.int i] [.d (.int i)] := .cons (.int i) .nil
/-! ### isinstance by kind -/
def isI : PyData → Bool
  | .int _ => true | .bool _ => true | _ => false
def isB : PyData → Bool
  | .bool _ => true | _ => false
def isL : PyData → Bool
  | .list _ => true | _ => false
def isT : PyData → Bool
  | .tuple _ => true | _ => false
def isS : PyData → Bool
  | .str _ => true | _ => false
theorem kit_int {d : PyData} : kitB (tyN d) "int" = some (isI d) := by cases d <;> (simp only [tyN, isI]; decide +kernel)
theorem kit_bool {d : PyData} : kitB (tyN d) "bool" = some (isB d) := by cases d <;> (simp only [tyN, isB]; decide +kernel)
theorem kit_list {d : PyData} : kitB (tyN d) "list" = some (isL d) := by cases d <;> (simp only [tyN, isL]; decide +kernel)
theorem kit_tuple {d : PyData} : kitB (tyN d) "tuple" = some (isT d) := by cases d <;> (simp only [tyN, isT]; decide +kernel)
theorem kit_str {d : PyData} : kitB (tyN d) "str" = some (isS d) := by cases d <;> (simp only [tyN, isS]; decide +kernel)
end
/-! ### the rules, their K told -/
section
variable {X : Cx} {K : Fg} {e : Expr} {te : TE} {es : List Expr} {t : TGs} {k n : Nat} {pos p tpos : Pos} {ta tb : TE} {a b : Expr} {tas : TA}
theorem opk_plus (hK : X.K = K := by rfl) : OpR X (binaryOp .Add) (rPlus K) := hK ▸ op_plus
theorem opk_eq (hu : X.A.units + 64 < cLine) (hK : X.K = K := by rfl) : OpR X (compareOp .Eq) (rEqD K) := hK ▸ op_eqD hu
theorem opk_ne (hu : X.A.units + 64 < cLine) (hK : X.K = K := by rfl) : OpR X (compareOp .NotEq) (rNeD K) := hK ▸ op_neD hu
theorem ixk (hK : X.K = K := by rfl) : IxR X (rIx K) := hK ▸ ix_seq
theorem cbk_len (hK : X.K = K := by rfl) : CallR X (.builtin "len") (rLen K) := hK ▸ cb_len
theorem cbk_isi (hK : X.K = K := by rfl) : CallR X (.builtin "isinstance") (rIsi K) := hK ▸ call_isi
theorem cbk_isiT (hK : X.K = K := by rfl) : CallR X (.builtin "isinstance") (rIsiT K) := hK ▸ call_isiT
theorem cbk_all (hc : X.calm = true) (hK : X.K = K := by rfl) : CallR X (.builtin "all") (rAll K) := hK ▸ cb_all hc
theorem cbk_list (hK : X.K = K := by rfl) : CallR X (.type "list") (rListOf K) := hK ▸ cb_list
theorem cbk_tup (hK : X.K = K := by rfl) : CallR X (.type "tuple") (rTupOf K) := hK ▸ cb_tup
theorem cbk_repr (hg : X.A.guards = some []) (hu : X.A.units + 64 < cLine) (hK : X.K = K := by rfl) : CallR X (.builtin "repr") (rRepr K) := hK ▸ cb_repr hg hu
theorem slk_tup (hK : X.K = K := by rfl) : SlR X (rSlA K) := hK ▸ sl_tupA
theorem pik_list {tg : Expr} (h : PE X e te) (hK : X.K = K := by rfl) : PI X tg e (iList K te) := hK ▸ pi_list h
theorem pik_tup {tg : Expr} (h : PE X e te) (hK : X.K = K := by rfl) : PI X tg e (iTup K te) := hK ▸ pi_tup h
theorem pik_zip {elts : List Expr} {kk : Nat} (hg : Gl X "zip") (hm : X.mg "zip" = none) (ha : PA X [a, b] tas) (hK : X.K = K := by rfl)
    (hs : starEach [a, b] X.env = (false, eval a X.env) :: starEach [b] X.env := by rfl) (hpl : (backTo pos (starEach [b] X.env)).any (·.1) = false := by rfl) :
    PI X (.Tuple elts kk tpos) (.Call (.Name "zip" p) [a, b] [] pos) (RZ.iZipA K tas) := hK ▸ RZ.pi_zipA hg hm ha hs hpl
theorem pgk_tup (n : Nat) (hc : X.calm = true) (h : PGs X es t) (hK : X.K = K := by rfl) (hn : (assignEach es X.env).length = n := by rfl) (hst : (assignEach es X.env).findIdx? (·.1) = none := by rfl) : PG X (.Tuple es k pos) (gTup K n t) := by
  subst hK hn
  exact pg_tup hc h rfl hst
end
end Pw
namespace Pw
open PySem L2
/-- what is known of a frame, less of it -/
inductive Lq : En → En → Prop
  | nil : Lq [] []
  | same {x l m} : Lq l m → Lq (x :: l) (x :: m)
  | none {x l m} : Lq l m → Lq (none :: l) (x :: m)
theorem Lq.len {l m : En} (h : Lq l m) : l.length = m.length := by
  induction h with
  | nil => rfl
  | same _ ih => simp [ih]
  | none _ ih => simp [ih]
theorem Lq.at_ {l m : En} (h : Lq l m) : ∀ (i : Nat) x, l[i]? = some (some x) → m[i]? = some (some x) := by
  induction h with
  | nil => intro i x e; exact e
  | same _ ih =>
    intro i x e
    cases i with
    | zero => exact e
    | succ i => exact ih i x e
  | none _ ih =>
    intro i x e
    cases i with
    | zero => cases e
    | succ i => exact ih i x e
theorem Lq.set {l m : En} (h : Lq l m) (n : Nat) (x : Option Dx) : Lq (l.set n x) (m.set n x) := by
  induction h generalizing n with
  | nil => exact .nil
  | same h ih =>
    cases n with
    | zero => exact .same h
    | succ n => exact .same (ih n)
  | none h ih =>
    cases n with
    | zero => exact .same h
    | succ n => exact .none (ih n)
theorem Lq.refl : ∀ l : En, Lq l l
  | [] => .nil
  | _ :: l => .same (Lq.refl l)
section
variable {K : Fg} {ρ ρ' : En} {s : Sto} {M0 : List Addr} {H0 : Hp} {F : Kp} {P : L2.St → Hp → Prop} {ds : List PyData}
theorem w_wk (q : Lq ρ' ρ) (h : W K M0 H0 F P ρ' s) : W K M0 H0 F P ρ s := w_weak h q.len q.at_
theorem o_tupL : OpC K (rTupOf K) [.d (.list ds)] s (.d (.tuple ds)) s := fun M H vs S r Q q => by
  cases r with
  | cons h t =>
    cases t
    cases h with
    | lst h a =>
      refine ⟨_, _, rfl, .inl ⟨SqL.of (hid_some h).2, fun l hl => ?_⟩⟩
      refine q _ _ (hid_new hl) (S.new hl) (At.tup (SqT.of ?_) (AtAll.mono (hid_new hl) _ _ a))
      rw [hid_out (S.free hl)]
      exact upd_same
end
end Pw
namespace Pw
open PySem L2
open PySem.W PySem.Spec PyProof.Rows
/-- a law's end, from its def's body -/
theorem law_end {l : PySem.W.OpenLaw} {n k : Nat} {q : Program} {loose : List Str} {XP : (Str → Option Value) → Heap → Prop} {YP : World → Heap → Prop} {d : DefRec} {K : Params → PySem.W.Frag} {x nm qual : Str} {st : Stmt} {N : List Str}
    (hn : l.most = some n) (hn2 : n ≤ sizeLine) (hdf : d.params.defaults = []) (hr : Room (k + 1) callerA) (hY : ∀ (w : World) (h : Heap), YP w h → (K w.params).In h) (S : FnScope N [x] (defScope st))
    (F : ∀ (w : World) (mg : Str → Option Value) (fa : Addr) (h : Heap), (K w.params).In h → h.Ns mainGlobals mg → mg d.name = some (.ref fa) →
      ∃ fd : FuncData, Fun (K w.params) nm qual st fa fd ∧ (∀ (s : Shared) (u : Value), BindsTo s fd ⟨[u], []⟩ [(x, u)]) ∧
        ∀ (base : Heap) (cdv : Value) (s : Shared) (H : Hp) (a : Addr) (ns : List Int), ns.length ≤ n → (K w.params).In base → base.Ns mainGlobals mg → Room k (callerA.deeper (envOfC qual (defScope st) s.heap.objs.size fa cdv)) → SqL (K w.params) H a (ns.map V.int) →
          ∃ t, PSs (cxOf CX0 l.prog w (K w.params) mg base N qual (defScope st) fa cdv callerA [] s H E0).nox (defBody st) t ∧ t { nx := fun _ _ => False, rt := fun v _ => v = .bl true } (L2.start N [.ref a]) H) :
    PySem.W.WalkO q loose XP YP l.row.toRowW d [] (fun f vs => PySem.call f vs) :=
  Att.attach_call hn hdf fun w s₀ s₁ mg mb fa o pm cd doc a vs ns G Y ho hd hcd hmg hobj hints hlen hg => by
    have KX := hY w _ Y
    obtain ⟨fd, hF, hb, hB⟩ := F w mg fa _ KX G.T.g hmg
    exact law_at KX G.T.g G.T.b G.T.builtins G.T.nolimit hg hobj hints (Nat.le_trans hlen hn2) hr hF S hb fun base cdv s H h1 h2 h3 h4 => hB base cdv s H a ns hlen h1 h2 h3 h4
end Pw
/-! errors that are caught, and held beyond their clause -/
namespace PySem
open PySem.W PySem.Spec
section
variable {M : Model} {A : Around} {E : Value → Shared → Prop} {s : Shared}
theorem loopA {cs : List Value} {f : Value → PUnit → Sem (ForInStep PUnit)} (hf : ∀ c ∈ cs, ∀ Q : ForInStep PUnit → Shared → Prop, Q (.yield ⟨⟩) s → wpAny M A (f c ⟨⟩) Q E s) {Q : PUnit → Shared → Prop} (q : Q ⟨⟩ s) : wpAny M A (forIn cs PUnit.unit f) Q E s := by
  induction cs with
  | nil =>
    rw [List.forIn_nil]
    exact wpAny_pure q
  | cons c r ih =>
    rw [List.forIn_cons]
    exact wpAny_bind (hf c List.mem_cons_self _ (ih fun c' h => hf c' (List.mem_cons_of_mem _ h)))
theorem loopB {τ : Type} {K : Frag} {cls : Value} {f : Value → τ → Sem (ForInStep τ)} {r0 rt : τ} (hf : ∀ c b, exmOne K cls c = some b → ∀ Q : ForInStep τ → Shared → Prop, Q (if b then .done rt else .yield r0) s → wpAny M A (f c r0) Q E s) :
    ∀ {cs : List Value} {b : Bool}, exmAny K cls cs = some b → ∀ {Q : τ → Shared → Prop}, Q (if b then rt else r0) s → wpAny M A (forIn cs r0 f) Q E s := by
  intro cs
  induction cs with
  | nil =>
    intro b h Q q
    rw [List.forIn_nil]
    cases h
    exact wpAny_pure q
  | cons c r ih =>
    intro b h Q q
    obtain ⟨b1, d1, h1, h2, rfl⟩ := exmAny_cons h
    rw [List.forIn_cons]
    refine wpAny_bind (hf c b1 h1 _ ?_)
    cases b1 with
    | true => exact wpAny_pure q
    | false => exact ih h2 q
/-- .. of a tuple of any many classes -/
theorem exm_tupN {K : Frag} {cs : List Value} {cls : Value} {tp e : Addr} {b : Bool} {h : Heap} (X : K.In h) (LT : Looks M h (typeOf (.ref e)) cls) (hp : h.get? tp = some { cls := .type "tuple", data := .seq cs.toArray }) (hx : exmAny K cls cs = some b) :
    Looks M h (excMatches (.ref e) (.ref tp)) b := by
  intro A Q E s k q
  have hall : ∀ {cs : List Value} {b : Bool}, exmAny K cls cs = some b → ∀ c ∈ cs, ∃ b1, exmOne K cls c = some b1 := by
    intro cs
    induction cs with
    | nil => intro _ _ c h; cases h
    | cons c r ih =>
      intro b h c' hm
      obtain ⟨b1, d1, h1, h2, _⟩ := exmAny_cons h
      rcases List.mem_cons.mp hm with rfl | hm
      · exact ⟨_, h1⟩
      · exact ih h2 c' hm
  have T0 : Looks M h (isInstance (.ref tp) (.type "tuple")) true := ((Looks.ld hp).andThen .now).andThen (Looks.of_pure isSubtype_tuple_tuple)
  have hp' := k _ _ hp
  unfold excMatches
  refine wpAny_bind ((T0.keeps k).here ?_)
  dsimp only
  rw [if_pos rfl]
  first
    | refine wpAny_bind (wpAny_seqItems hp' rfl ?_)
    | refine wpAny_bind (wpAny_bind (wpAny_seqItems hp' rfl (wpAny_pure ?_)))
  dsimp only [Option.getD_some, Option.getD]
  try refine wpAny_bind (wpAny_pure ?_)
  refine wpAny_bind (loopA (fun c hc Q' q' => ?_) ?_)
  · obtain ⟨b1, h1⟩ := hall hx c hc
    refine wpAny_bind (((exm_cls (M := M) X h1).1.keeps k).here ?_)
    simp only [Bool.not_true, Bool.false_eq_true, if_false]
    exact wpAny_pure q'
  · refine wpAny_bind ((LT.keeps k).here ?_)
    refine wpAny_bind (loopB (K := K) (cls := cls) (rt := (some true, ())) (r0 := (none, ())) (fun c b1 h1 Q' q' => ?_) hx ?_)
    · refine wpAny_bind (((exm_cls (M := M) X h1).2.keeps k).here ?_)
      cases b1 with
      | true => exact wpAny_pure q'
      | false => exact wpAny_pure q'
    · cases b with
      | true => exact wpAny_pure q
      | false => exact wpAny_pure q
end
end PySem
namespace Pw
open PySem L2 PySem.Spec PyProof.Rows
theorem exk_ok {P : Program} {w : World} {H : Hp} {h : Heap} {a : Addr} {cls : Value} {d : Option Addr} {oe : Obj} {vs : Array Value} (e : h.get? a = some oe) (z : Zc cls d oe) (hd : oe.data = .fields vs) : ObjOk P w H h a (exk cls d a) :=
  ⟨⟨oe, vs, e, z, hd⟩, ⟨oe, e⟩, fun _ _ ⟨o, v, q, r⟩ k => ⟨o, v, k o q, r⟩⟩
theorem exk_at {P : Program} {w : World} {H : Hp} {h : Heap} {a : Addr} {cls : Value} {d : Option Addr} (hok : HOk P w H h) (e : H a = some (exk cls d a)) : ∃ (oe : Obj) (vs : Array Value), h.get? a = some oe ∧ Zc cls d oe ∧ oe.data = .fields vs := (hok a _ e).1
section
variable {X : Cx} {pins : List (Addr × Obj)} {σ : L2.St} {H : Hp} {s : Shared}
/-- an object that was not there at the entry joins what is tracked -/
theorem inv_join {a : Addr} {o : HO} {oe : Obj} {vs : Array Value} (I : Inv X pins σ H s) (ha : s.heap.get? a = some oe) (hd : oe.data = .fields vs) (na : H a = none) (nL : a ≠ X.env.locals) (n0 : ∀ u, X.s_0.heap.get? a = some u → a ∈ X.ex) (np : ∀ p ∈ X.pn ++ pins, p.1 ≠ a)
    (new : ObjOk X.prog X.w (upd H a o) s.heap a o) : Inv X pins σ (upd H a o) s where
  ok := I.ok
  os := I.os
  bare := I.bare
  base := ⟨I.base.keep, I.base.slot, fun b u e n hx => by
      rw [upd_ne (fun z => hx (by rw [z] at e ⊢; exact n0 _ e))]
      exact I.base.free b u e n hx, I.base.there, fun b xs e => by
      rw [upd_ne (ne_of_none (I.base.tups b xs e) na)]
      exact I.base.tups b xs e, fun b u v e => by
      rw [upd_ne (ne_of_none (I.base.frzs b u v e) na)]
      exact I.base.frzs b u v e, fun b ps e => by
      obtain ⟨m, z⟩ := I.base.tbls b ps e
      exact ⟨m, by rw [upd_ne (ne_of_none z na)]; exact z⟩⟩
  loc := I.loc
  cell := I.cell
  free := by
    rw [upd_ne nL.symm]
    exact I.free
  freeC := fun x c e => by
    obtain ⟨v, hc⟩ := I.cell x c e
    rw [upd_ne (fun z => by
      obtain ⟨oc, h1, h2⟩ := hc
      subst z
      rw [ha] at h1
      cases h1
      rw [hd] at h2
      cases h2)]
    exact I.freeC x c e
  pin := fun p hp => by
    obtain ⟨h1, h2, h3, h4, h5⟩ := I.pin p hp
    exact ⟨h1, by rw [upd_ne (np p hp)]; exact h2, h3, h4, h5⟩
  hok := fun b u e => by
    by_cases hb : b = a
    · subst hb
      rw [upd_same] at e
      cases e
      exact new
    · rw [upd_ne hb] at e
      exact (I.hok b u e).stay (fun _ _ _ q => q) (fun c q => by rw [upd_ne (ne_of_none q na)]; exact q) fun c xs q => by rw [upd_ne (ne_of_none q na)]; exact q
  len := I.len
end
end Pw
namespace Pw
open PySem L2 PySem.Spec PyProof.Rows
/-- the classes that a clause lists -/
inductive Nms (X : Cx) : List Expr → List Value → Prop
  | nil : Nms X [] []
  | cons {x : Str} {c : Value} {p : Pos} {es : List Expr} {cs : List Value} : Names X x c → Nms X es cs → Nms X (.Name x p :: es) (c :: cs)
section
variable {X : Cx} {a : Addr}
theorem nm_run {x : Str} {c : Value} {np : Pos} {pn : List (Addr × Obj)} {σ : L2.St} {H : Hp} {s : Shared} {Q : Value → Shared → Prop} {E : Value → Shared → Prop} (N : Names X x c) (S : Inv (X.suite a pn) [] σ H s) (q : Q c s) :
    wpAny (model X.prog X.w) (X.A.mark (some (.ref a))) (eval (.Name x np) X.env) Q E s := by
  obtain ⟨g, db, e | ⟨e, hv, hn⟩⟩ := N
  · exact ld_glob (X := X.suite a pn) S g e q db
  · exact ld_blt (X := X.suite a pn) S g e hv q hn db
theorem nms_run {es : List Expr} {cs : List Value} {pos : Pos} {pn : List (Addr × Obj)} {σ : L2.St} {H : Hp} {s : Shared} {E : Value → Shared → Prop} (N : Nms X es cs) (S : Inv (X.suite a pn) [] σ H s) :
    ∀ {Q : List Value → Shared → Prop}, Q cs s → wpAny (model X.prog X.w) (X.A.mark (some (.ref a))) (spliced (backTo pos (starEach es X.env))) Q E s := by
  induction N with
  | nil => exact fun q => wpAny_items_nil q
  | cons n _ ih => exact fun q => wpAny_items_cons (nm_run n S (ih q))
theorem fly_more {B h : Heap} {l : List Env} {Z : Obj → Prop} {h' : Heap} (k : ∀ b o, h.get? b = some o → h'.get? b = some o) (F : HandSPX.FlyingZ B l a Z h) : HandSPX.FlyingZ B l a Z h' := by
  obtain ⟨f1, f2, f3, oe, vs, T, oT, ts, g1, g2, g3, g4, g5, g6, g7, g8, g9⟩ := F
  exact ⟨fun b o e => k b o (f1 b o e), f2, f3.of_keeps fun b o e _ => ⟨o, k b o e, rfl⟩, oe, vs, T, oT, ts, k _ _ g1, g2, g3, g4, g5, g6, k _ _ g7, g8, g9⟩
/-- what a list of classes wishes of an exception; where it is caught it is held in the slot j -/
def wKeep (K : Fg) (cs : List Value) (i j : Nat) (Wout : WX) (D : Ends) : WX := fun cls d σ H =>
  ∃ b, PySem.W.exmAny K cls cs = some b ∧ (b = true → ∀ a, H a = none → D.nx (((σ.set i (some (.ref a))).set j (some (.ref a))).set i none) (upd H a (exk cls d a))) ∧ (b = false → Wout cls d σ H)
theorem keep_ok {u v : Str} {i j : Nat} {p1 p2 p3 : Pos} {pins : List (Addr × Obj)} {σ : L2.St} {H : Hp} {s : Shared} {cls : Value} {d : Option Addr} {D : Ends} {E0 : Value → Shared → Prop} {pos : Pos} {oe : Obj} {vs : Array Value} {h : Heap}
    (hN : X.N.Nodup) (hi : X.N[i]? = some u) (hu : X.env.kindOf u = some .local) (hj : X.N[j]? = some v) (hv : X.env.kindOf v = some .local) (ud : (u == ("__debug__" : Str)) = false) (uc : (u == ("__classdict__" : Str)) = false) (sw : swapsWith (.Name u p2) (some (.Name v p1)) p3.line X.env = pure false)
    (J : Inv X pins σ H { s with heap := h }) (he : h.get? a = some oe) (hz : Zc cls d oe) (hd : oe.data = .fields vs) (na : H a = none) (nL : a ≠ X.env.locals) (nF : a ∉ X.fs) (n0 : ∀ o, X.s_0.heap.get? a = some o → a ∈ X.ex) (np : ∀ p ∈ X.pn ++ pins, p.1 ≠ a)
    (q : D.nx (((σ.set i (some (.ref a))).set j (some (.ref a))).set i none) (upd H a (exk cls d a))) :
    wpAny (model X.prog X.w) (X.A.mark (some (.ref a))) (storeName X.env u (.ref a)) (fun _ s₂ => wpAny (model X.prog X.w) (X.A.mark (some (.ref a))) (execs [.Assign [.Name v p1] (.Name u p2) p3] X.env)
      (fun f s₃ => wpAny (model X.prog X.w) X.A (do bindName X.env u .none; unbindBehindTheSuite X.env u pos) (fun _ s₄ => SP X pins D f s₄) X.xe s₃) (fun _ _ => False) s₂) E0 { s with heap := h } := by
  have S := J.suite he hd na nL nF
  have hil : i < σ.length := by
    have := (List.getElem?_eq_some_iff.mp hi).1
    rw [J.len]
    exact this
  refine store_ok (X := X.suite a ((a, oe) :: (X.pn ++ pins))) (v := .ref a) S hN hi (.inl hu) rfl (fun s5 S5 => ?_) (.inr hu)
  have st : PSs (X.suite a ((a, oe) :: (X.pn ++ pins))) [.Assign [.Name v p1] (.Name u p2) p3] (tAsg (tVar i) (gName j)) := pss_one (ps_set hN hj (.inl hv) (pe_var hi (.inl hu) ud uc) sw (.inr hv))
  refine wpAny_mono (st.run [] s5 _ H { nx := fun σ6 H6 => σ6 = (σ.set i (some (.ref a))).set j (some (.ref a)) ∧ H6 = H, rt := fun _ _ => False } S5 ⟨.ref a, List.getElem?_set_self hil, rfl, rfl⟩) (fun f s6 z => ?_) (fun _ _ z => z)
  cases f with
  | next =>
    obtain ⟨σ6, H6, S6, rfl, rfl⟩ := z
    refine gone_ok (X := X.suite a ((a, oe) :: (X.pn ++ pins))) S6 hN hi hu fun s7 S7 => ?_
    have P := (S7.pin (a, oe) (List.mem_append_left _ List.mem_cons_self)).1
    exact ⟨_, _, inv_join (S7.unsuite J.ok) P hd na nL n0 np (exk_ok P hz hd), q⟩
  | ret _ => obtain ⟨_, _, _, _, _, f⟩ := z; exact f.elim
  | brk => obtain ⟨_, _, _, f⟩ := z; exact f.elim
  | cont => obtain ⟨_, _, _, f⟩ := z; exact f.elim
/-- try: body, except (A, B, ..) as u: v = u -/
theorem ps_try_keep {u v : Str} {i j : Nat} {body : List Stmt} {es : List Expr} {cs : List Value} {kk : Nat} {tp p1 p2 p3 pos pos' : Pos} {tb : WX → TS} {Wout : WX}
    (e1 : X.stack = X.env :: X.outer) (e2 : X.env.frame = some X.env.locals) (hN : X.N.Nodup) (hi : X.N[i]? = some u) (hu : X.env.kindOf u = some .local) (hj : X.N[j]? = some v) (hv : X.env.kindOf v = some .local) (N : Nms X es cs) (tk : Takes X Wout)
    (bo : ∀ (W : WX) (pn : List (Addr × Obj)) (xe : Value → Shared → Prop), Takes (X.tr pn xe) W → PassesOwn (model X.prog X.w) X.A X.env xe → PSs (X.tr pn xe) body (tb W))
    (ud : (u == ("__debug__" : Str)) = false := by decide) (uc : (u == ("__classdict__" : Str)) = false := by decide) (sw : swapsWith (.Name u p2) (some (.Name v p1)) p3.line X.env = pure false := by rfl) (hl : cs.length ≤ 100 := by decide) :
    PS X (.Try body [.ExceptHandler (some (.Tuple es kk tp)) (some u) [.Assign [.Name v p1] (.Name u p2) p3] pos'] [] [] pos) (fun D σ H => tb (wKeep X.K cs i j Wout D) D σ H) := by
  refine ⟨fun pins s σ H D I h => ?_⟩
  have fr1 : X.A.frames = some (X.env :: X.outer) := by rw [I.ok.frames, e1]
  refine wpAny_Try_except ?_
  let XE' : Value → Shared → Prop := fun e t1 => wpAny (model X.prog X.w) X.A (noteFrame e X.env) (fun _ t2 => wpAny (model X.prog X.w) X.A (setFlight e none) (fun _ t3 =>
    wpAny (model X.prog X.w) X.A (handleBy e X.env [.ExceptHandler (some (.Tuple es kk tp)) (some u) [.Assign [.Name v p1] (.Name u p2) p3] pos']) (SP X pins D) X.xe t3) X.xe t2) X.xe t1
  have took : Takes (X.tr (X.pn ++ pins) XE') (wKeep X.K cs i j Wout D) := by
    rintro _ s' ⟨a, B, sI, pins', σ', H', cls, d, rfl, J', nb, up, sky, na, os, ag, b, hb, yes, no⟩
    have J : Inv X pins σ' H' sI := J'.ofTry I.ok
    have sky' : Sky B (X.env :: X.outer) a (Zc cls d) X.env.locals s'.heap := by rw [← e1]; exact sky
    show wpAny (model X.prog X.w) X.A (noteFrame (.ref a) X.env) _ _ _
    refine Sky.land Zc.steady fr1 e2 sky' fun g3 F3 up3 => ?_
    have inB : B.get? a = none := F3.2.1
    have outF : a ∉ frs (X.env :: X.outer) := fun m => by
      obtain ⟨oe, vs, g1, _, g2⟩ := F3.there
      obtain ⟨_, o', e', z⟩ := F3.2.2.1.mem m
      rw [g1] at e'
      cases e'
      exact z _ g2
    have nI : sI.heap.get? a = none := by
      cases e : sI.heap.get? a with
      | none => rfl
      | some o =>
        have := nb a o e (by rw [e1]; exact outF)
        rw [inB] at this
        cases this
    have nL : a ≠ X.env.locals := fun z => outF (List.mem_filterMap.mpr ⟨X.env, List.mem_cons_self, by rw [e2, z]⟩)
    have nF : a ∉ X.fs := fun m => by
      obtain ⟨e, he, q⟩ := List.mem_filterMap.mp m
      exact outF (List.mem_filterMap.mpr ⟨e, List.mem_cons_of_mem _ he, q⟩)
    have n0 : ∀ o, X.s_0.heap.get? a = some o → a ∈ X.ex := fun o e => Classical.byContradiction fun hx => by
      obtain ⟨o', z⟩ := J.base.there a o e hx
      rw [nI] at z
      cases z
    have np : ∀ p ∈ X.pn ++ pins, p.1 ≠ a := fun p hp z => by
      have := (J.pin p hp).1
      rw [z, nI] at this
      cases this
    have up2 := up.trans up3
    have J3 : Inv X pins σ' H' { s' with heap := g3 } := J.landed nb F3.1 up2 os ag
    obtain ⟨oe3, vs3, y1, y2, y3⟩ := F3.there
    refine wpAny_handleBy_cons (codeAny_handlers_test ?_) (by intro q; cases q)
    have S3 := J3.suite y1 y3 na nL nF
    refine wpAny_Tuple (nms_run N S3 ⟨Nat.le_trans hl (by rw [sizeLine_eq]; decide), ?_⟩)
    have kp : ∀ b o, g3.get? b = some o → (g3.push { cls := .type "tuple", data := .seq cs.toArray }).get? b = some o := fun _ _ z => Heap.get?_push_of_some _ z
    have LT : PySem.W.Looks (model X.prog X.w) (g3.push { cls := .type "tuple", data := .seq cs.toArray }) (typeOf (.ref a)) cls := fun A Q E t k q => wpAny_typeOf_ref (k _ _ (kp _ _ y1)) (by rw [y2.1]; exact q)
    have LM := exm_tupN (M := model X.prog X.w) (J3.kIn.keeps kp) LT (Heap.get?_push_size g3 rfl) hb
    refine LM.here ?_
    have F4 := fly_more kp F3
    have up4 : s'.heap.UpToSlots (g3.push { cls := .type "tuple", data := .seq cs.toArray }) := fun b o e z => by
      obtain ⟨sl, y⟩ := up3 b o e z
      exact ⟨sl, kp _ _ y⟩
    cases b with
    | true =>
      refine codeAny_handlers_suite_as ?_
      refine HandSPX.lands_againZ F4 fun g5 F5 up5 => ?_
      have J5 : Inv X pins σ' H' { s' with heap := g5 } := J.landed nb F5.1 ((up.trans up4).trans up5) os ag
      obtain ⟨oe5, vs5, x1, x2, x3⟩ := F5.there
      exact wpAny_mono (keep_ok (p3 := p3) (pos := pos') hN hi hu hj hv ud uc sw J5 x1 x2 x3 na nL nF n0 np (yes rfl a na)) (fun _ _ z => wpAny_mono z (fun _ _ z => z) (fun _ _ z => z.elim)) (fun _ _ z => z)
    | false =>
      show wpAny _ X.A (handleBy (.ref a) X.env []) _ _ _
      refine wpAny_handleBy_nil ?_
      have F4' := F4
      obtain ⟨_, _, _, oe, vs, T, oT, ts, w1, w2, w3, w4, _⟩ := F4'
      unfold PySem.passOn
      refine wpAny_bind (wpAny_field w1 w3 w4 ?_)
      rw [if_neg (show ¬ ((Value.ref T == Value.none) = true) from by simp)]
      have on : wpAny (model X.prog X.w) X.A (setFlight (.ref a) X.env.frame) (fun _ t => wpAny (model X.prog X.w) X.A (throw (.ref a) : Sem Flow) (SP X pins D) X.xe t) X.xe { s' with heap := g3.push { cls := .type "tuple", data := .seq cs.toArray } } := by
        rw [e2]
        refine HandSPX.setFlight_upZ F4 fun g5 F5 up5 => wpAny_throw (tk _ _ ?_)
        exact ⟨a, B, sI, pins, σ', H', cls, d, rfl, J, nb, (up.trans up4).trans up5, .inr (.inr (by rw [e1]; exact F5)), na, os, ag, no rfl⟩
      first
        | exact wpAny_bind (wpAny_pure (wpAny_bind on))
        | exact wpAny_bind on
  refine wpAny_mono ((bo (wKeep X.K cs i j Wout D) (X.pn ++ pins) XE' took PassesOwn.looking).run [] s σ H D (I.toTry _) h) (fun f s1 z => ?_) (fun _ _ z => z)
  cases f with
  | next =>
    obtain ⟨_, _, J', q⟩ := z
    exact wpAny_execs_nil ⟨_, _, J'.ofTry I.ok, q⟩
  | brk =>
    obtain ⟨_, _, J', q⟩ := z
    exact ⟨_, _, J'.ofTry I.ok, q⟩
  | cont =>
    obtain ⟨_, _, J', q⟩ := z
    exact ⟨_, _, J'.ofTry I.ok, q⟩
  | ret _ =>
    obtain ⟨_, _, _, J', r, q⟩ := z
    exact ⟨_, _, _, J'.ofTry I.ok, r, q⟩
end
end Pw
/-! own errors over any built-in class, their __init__ keeping one field -/
namespace Pw
open PySem L2 PySem.Spec PyProof.Rows
/-- an own class of errors whose chain of built-in classes is tl -/
structure Oxg (K : Fg) (C : Addr) (tl : List Value) (newId : String) : Prop where
  base : ∃ B initId, ExcBaseFacts B newId initId tl
  thru : ∀ self, refuseLoop self "__setattr__" tl = pure ()
  obj : tl.contains (.type "object") = true
  cls : ∃ nm q N bs sn sub ab col dd k0 k1 k2 k3 k5, K.lookup C = some (excClassObj nm q C N bs tl true sn sub ab col dd k0 k1 k2 k3 k5 newId)
  sa : PySem.W.findIn K (.ref C) "__setattr__" = some (some (.builtin "object.__setattr__"))
  exC : PySem.W.subIn K (.ref C) (.type "BaseException") = some true
  tyC : PySem.W.typeIn K (.ref C) = some (.type "type")
  kC : PySem.W.keepIn K (.ref C) = true
theorem Oxg.data {K : Fg} {C : Addr} {tl : List Value} {newId : String} (T : Oxg K C tl newId) : ∃ cd, PySem.W.clsIn K C = some cd ∧ cd.mro = .ref C :: tl ∧ cd.hasDict = true := by
  obtain ⟨nm, q, N, bs, sn, sub, ab, col, dd, k0, k1, k2, k3, k5, hC⟩ := T.cls
  refine ⟨{ name := nm, bases := bs, mro := .ref C :: tl, ns := N, qualname := q, hasDict := true, slotNames := sn, subclasses := sub, abstract := ab, collection := col, hasDel := false }, ?_, rfl, rfl⟩
  unfold PySem.W.clsIn
  rw [hC] <;> rfl
end Pw
namespace PySem
open PySem.W PySem.Calls PyProof.Rows Builtin Builtin.ObjectAttr
section
variable {prog : Program} {w : World} {A : Around} {R : Result → Shared → Prop} {hp : Heap} {g : Array GenState} {d : Drawn} {t : Nat} {os : OsState}
/-- the first field of an own error -/
theorem osa_first {K : W.Frag} {name : Str} {tk : Tok} {v : Value} {x C : Addr} {tl : List Value} {newId : String} {fv : Array Value} (T : Pw.Oxg K C tl newId) (X : K.In hp) (hx : hp.get? x = some { cls := .ref C, data := .fields fv }) (no : W.findIn K (.ref C) name = some none)
    (q : ∀ h' tk' dx, (∀ b o, b ≠ x → hp.get? b = some o → h'.get? b = some o) → hp.objs.size ≤ dx → dx ≠ x → h'.get? x = some { cls := .ref C, dict := some dx, data := .fields fv } → h'.Ns1 dx (fun y => if y = name then some v else none) → R (.ok (.ret .none)) ⟨h', g, d, tk', os⟩) :
    codeAny (model prog w) A (.call (.builtin "object.__setattr__") ⟨[.ref x, .str name tk, v], []⟩) R ⟨hp, g, d, t, os⟩ := by
  obtain ⟨cd, hcd, hm, hd⟩ := T.data
  have I : W.InstAt hp x { cls := .ref C, data := .fields fv } C none := ⟨hx, rfl, rfl, trivial⟩
  have far : x ≠ hp.objs.size := Nat.ne_of_lt (Heap.lt_size hx)
  have is : W.Looks (model prog w) hp (isInstance (.ref x) (.type "object")) true := I.type.andThen (W.looks_mroIn X (by
    have ho : (Value.ref C :: tl).contains (.type "object") = true := by rw [List.contains_cons, T.obj, Bool.or_true]
    unfold W.mroIn; rw [hcd, Option.bind_some, hm, if_neg (show ¬ (List.isEmpty (Value.ref C :: tl) = true) from Bool.false_ne_true), ho]))
  refine codeAny_call_builtin F.store_object.slot.plain F.store_object.entry (@W.check_slot (model prog w) _ _ ⟨hp, g, d, t, os⟩ "object.__setattr__" "object" "__setattr__" (.ref x) [.str name tk, v] [] _ F.store_object.kind F.store_object.split is (F.store_object.args (.ref x) (.str name tk) v) ?_)
  have chain : W.Looks (model prog w) hp (mroOf (.ref C)) cd.mro := (W.looks_clsIn X hcd).andThen .now
  have taker : W.Looks (model prog w) hp (storeTaker? none) none := .now
  have cls : W.Looks (model prog w) hp (classData C) cd := W.looks_clsIn X hcd
  have thru : refuseLoop (.ref x) "__setattr__" cd.mro = pure () := by rw [hm, refuseLoop_ref]; exact T.thru _
  rw [W.osa_eq, refuse_eq]
  refine wpAny_bind (wpAny_bind (I.type.at (wpAny_bind (chain.at ?_))))
  rw [thru]
  refine wpAny_pure (wpAny_bind (I.type.at (wpAny_bind ((W.looks_findIn X no).at (wpAny_bind (taker.at ?_))))))
  show wpAny _ _ (storeInOwnDict (.ref x) (.ref C) (.str name tk) name v false) _ _ _
  obtain ⟨c1, c2, c3, c4, c5, c6, c7, c8, c9, c10, c11⟩ := cd
  have hd' : c6 = true := hd
  subst hd'
  unfold storeInOwnDict ownDictForStores; repeat (first | with_reducible refine HandSPX.store_in_new ?_ ?_ | with_reducible refine wpAny_loadPart_at hx ?_ | with_reducible refine cls.at ?_ | wp_step)
  · exact ⟨_, #[], _, (Heap.get?_update_ne _ _ _ _ far.symm).trans (Heap.get?_push_at rfl rfl), rfl, fun e z => absurd z (by simp), fun _ => rfl⟩
  · intro h' tk' ns sb
    have old : (hp.push { cls := .type "dict", data := .dict #[] }).get? x = some { cls := .ref C, data := .fields fv } := Heap.get?_push_of_some _ hx
    exact q h' tk' hp.objs.size (fun b o nb ho => (sb.2 b (Nat.ne_of_lt (Heap.lt_size ho))).trans ((Heap.get?_update_ne _ _ _ _ nb).trans (Heap.get?_push_of_some _ ho))) (Nat.le_refl _) far.symm ((sb.2 x far).trans (Heap.get?_update_self _ old rfl)) ns
end
end PySem
namespace Pw
open PySem L2 PySem.Spec PyProof.Rows
section
variable {X : Cx} {pins : List (Addr × Obj)} {σ : L2.St} {H : Hp} {s : Shared}
/-- self.f = y, the first field -/
theorem field_ok {A : Around} {E : Value → Shared → Prop} {a C : Addr} {tl : List Value} {newId : String} {f : Str} {y : V} {u : Value} {Q : Unit → Shared → Prop} (T : Oxg X.K C tl newId) (I : Inv X pins σ H s) (e : H a = some (exo a C none)) (no : PySem.W.findIn X.K (.ref C) f = some none) (ry : RelV y u)
    (q : ∀ dx s', H dx = none → dx ≠ a → Inv X pins σ (upd (upd H dx (exd dx [(f, y)])) a (exo a C (some dx))) s' → Q () s') : wpAny (model X.prog X.w) A (setAttr (.ref a) f u) Q E s := by
  obtain ⟨t1, ho⟩ := exo_at I.hok e
  obtain ⟨hp, g, d, t, os⟩ := s
  have J : PySem.W.InstAt hp a { cls := .ref C, dict := none, data := .fields #[.ref t1, .none, .none, .none, .bool false, .none] } C none := ⟨ho, rfl, rfl, trivial⟩
  refine PySem.W.set_plain I.kIn J T.sa (osa_first T I.kIn ho no fun h' tk' dx k dn ne hx hn => ?_)
  have nd0 : H dx = none := I.hok.fresh dn
  have oldNe : ∀ {b : Addr} {o : Obj}, hp.get? b = some o → b ≠ dx := fun {b o} z => Nat.ne_of_lt (Nat.lt_of_lt_of_le (Heap.lt_size z) dn)
  have freeNe : ∀ {b : Addr}, H b = none → b ≠ a := fun {b} n z => by rw [z, e] at n; cases n
  have put : ∀ {b : Addr} {o : HO}, H b = some o → o ≠ exo a C none → (upd (upd H dx (exd dx [(f, y)])) a (exo a C (some dx))) b = some o := fun {b o} z n => by
    rw [upd_ne (fun w => n (by rw [w, e] at z; exact (Option.some.inj z).symm)), upd_ne (ne_of_none z nd0)]
    exact z
  have thr : ∀ b o, hp.get? b = some o → ∃ o', h'.get? b = some o' := fun b o z => by
    by_cases hb : b = a
    · subst hb
      exact ⟨_, hx⟩
    · exact ⟨o, k b o hb z⟩
  have U : Un X.fs [] H (upd (upd H dx (exd dx [(f, y)])) a (exo a C (some dx))) hp h' :=
    ⟨fun b o z n _ _ => k b o (freeNe n) z, fun b o z n _ _ => ⟨o.slots, k b o (freeNe n) z⟩, fun b o z n _ => by rw [upd_ne (freeNe n), upd_ne (oldNe z)]; exact n,
      fun b o z _ => thr b o z, fun b xs z => put z (Ne.symm exo_tup), fun b o v z => put z (Ne.symm exo_frz), fun b ps z => ⟨#[], by rw [put z (Ne.symm exo_tbl)]; simp⟩⟩
  refine q dx _ nd0 ne (I.un (t' := tk') U fun b o z => ?_)
  by_cases hb : b = a
  · subst hb
    rw [upd_same] at z
    cases z
    exact exo_ok hx
  · rw [upd_ne hb] at z
    by_cases hd : b = dx
    · subst hd
      rw [upd_same] at z
      cases z
      exact exd_ok hn (relO_put (fs := []) ry fun _ => True.intro)
    · rw [upd_ne hd] at z
      refine (I.hok b o z).stay (fun c v hc w => k c v ?_ w) (fun c hc => put hc (Ne.symm exo_own)) fun c xs hc => put hc (Ne.symm exo_tup)
      rcases hc with hc | hc
      · rw [hc]
        exact hb
      · exact fun w => by
          rw [w, e] at hc
          exact exo_own (Option.some.inj hc)
def tFirst (K : Fg) (f : Str) (to te : TE) : TS := fun D σ H => te σ H fun y H1 => to σ H1 fun x H2 => ∃ (a C : Addr) (tl : List Value) (newId : String), x = .ref a ∧ Oxg K C tl newId ∧ PySem.W.findIn K (.ref C) f = some none ∧ H2 a = some (exo a C none) ∧
  ∀ dx, H2 dx = none → dx ≠ a → D.nx σ (upd (upd H2 dx (exd dx [(f, y)])) a (exo a C (some dx)))
theorem ps_first {o e : Expr} {to te : TE} {f : Str} {p' pos : Pos} (ho : PE X o to) (he : PE X e te) (sw : swapsWith e (some (.Attribute o f p')) pos.line X.env = pure false := by rfl) : PS X (.Assign [.Attribute o f p'] e pos) (tFirst X.K f to te) :=
  ⟨fun pins s σ H D I h => plainObj_wpAny_Assign_Attribute (thn (he.run pins s σ H _ I h) fun v s1 ⟨y, H1, I1, r1, q1⟩ => thn (ho.run pins s1 σ H1 _ I1 q1) fun u s2 ⟨x, H2, I2, r2, a, C, tl, nw, ex, T, no, ea, q⟩ => by
    subst ex
    obtain rfl : u = Value.ref a := r2
    exact field_ok T I2 ea no r1 fun dx s' n ne J => ⟨σ, _, J, q dx n ne⟩) sw⟩
/-- C(e, ..), as ExcInit's rule says it, over any built-in class -/
theorem pmk_first {CX : CXT} {x : Str} {C fI : Addr} {tl : List Value} {newId : String} {k : Nat} {fd : FuncData} {ps : List Str} {sp : Sp} {ds : List Value} {dvs : List V} {e : Expr} {es : List Expr} {ta : TA} {p pos : Pos} (T : Oxg X.K C tl newId) (iC : PySem.W.findIn X.K (.ref C) "__init__" = some (some (.ref fI)))
    (tI : PySem.W.typeIn X.K (.ref fI) = some (.type "function")) (G : FnOk X.prog X.w X.K X.mg X.base CX k fI fd ps sp) (hr : Room (k + 1) X.A) (hb : Binds X.K fd ps ds) (hd : Vals dvs ds) (pass : Passes CX X (fun _ _ _ => False)) (hg : Gl X x) (hm : X.mg x = some (.ref C)) (ha : PA X (e :: es) ta)
    (db : (x == ("__debug__" : Str)) = false := by decide) (st : starEach (e :: es) X.env = (false, eval e X.env) :: starEach es X.env := by rfl) (pl : (backTo pos (starEach es X.env)).any (·.1) = false := by rfl) : PMk X (.Call (.Name x p) (e :: es) [] pos) (tMkO C sp dvs ta) := by
  intro pins s σ H Q I h
  obtain ⟨B, initId, FB⟩ := T.base
  obtain ⟨nm, q, N, bs, sn, sub, ab, col, dd, k0, k1, k2, k3, k5, hC⟩ := T.cls
  refine wpAny_Call_Name_kw (ld_glob I hg hm (PySem.W.callWith_K (h₀ := X.base) I.ok.mod.kin T.kC (thn (ha.run pos pins s σ H _ I h) fun us s1 ⟨vs, H1, I1, r1, hz, q1⟩ => ⟨I1.kIn, ?_⟩) st pl) db)
  show wpAny _ _ (call (.ref C) us) _ _ _
  obtain ⟨hp, g, dr, tk, os⟩ := s1
  have up1 : hp.objs.size ≤ hp.objs.size + 1 := Nat.le_succ _
  have ask := q1 (hp.objs.size + 1) (I1.hok.fresh up1)
  have keep2 : ∀ b o, hp.get? b = some o → ((hp.push (PySem.W.kdv_tup us)).push (PySem.HandSPX.excO C hp.objs.size)).get? b = some o := fun b o z => Heap.get?_push_of_some _ (Heap.get?_push_of_some _ z)
  have made : ((hp.push (PySem.W.kdv_tup us)).push (PySem.HandSPX.excO C hp.objs.size)).get? (hp.objs.size + 1) = some (PySem.HandSPX.excO C hp.objs.size) := by heap_get
  have I2 : Inv X pins σ (upd H1 (hp.objs.size + 1) (exo (hp.objs.size + 1) C none)) ⟨(hp.push (PySem.W.kdv_tup us)).push (PySem.HandSPX.excO C hp.objs.size), g, dr, tk, os⟩ := I1.laid (t' := tk) (a := hp.objs.size + 1) keep2 up1 (exo_ok made)
  have r2 : Vals (V.ref (hp.objs.size + 1) :: (vs ++ dvs)) (Value.ref (hp.objs.size + 1) :: (us ++ ds)) := .cons rfl (r1.append hd)
  have few : (Value.ref (hp.objs.size + 1) :: us ++ ds).length = ps.length := r2.length.symm.trans (G.len _ _ _ _ ask)
  have short : us.length ≤ sizeLine := by rw [← Paired.length r1, sizeLine_eq]; omega
  refine wpAny_call (PySem.HandSPX.call_own FB (fun _ => rfl) (I1.kIn _ _ hC) (PySem.W.looks_findIn I1.kIn iC) (fun self => PySem.W.bind_fn I1.kIn self tI) short (codeAny_mono (G.run _ X.stack _ _ ⟨Value.ref (hp.objs.size + 1) :: us, []⟩ (Value.ref (hp.objs.size + 1) :: (us ++ ds)) _ _ (fun _ _ _ => False)
    (hr.make C us []) (I2.env0.make C us []) (hb _ (Value.ref (hp.objs.size + 1) :: us) I2.kIn few) r2 ask) fun r s' z => ?_))
  cases r with
  | error er => exact pass pins σ _ _ er s' I2 z
  | ok fl =>
    cases fl with
    | ret u =>
      obtain ⟨v, H2, os2, bare2, un2, hok2, rv, ev, d, fs, ea, ed, hd1, q2⟩ := z
      subst ev
      obtain ⟨h2, g2, d2, t2, os'⟩ := s'
      exact ⟨rv, mk_end (raises_own T.exC T.tyC) I1 up1 keep2 un2 hok2 os2 bare2 ea ed hd1 q2⟩
    | next => exact z.elim
    | brk => exact z.elim
    | cont => exact z.elim
end
end Pw
/-! what is asked of a held error -/
namespace Pw
open PySem L2 PySem.Spec PyProof.Rows
structure Exg (K : Fg) (C : Addr) : Prop where
  ga : PySem.W.findIn K (.ref C) "__getattribute__" = some (some (.builtin "BaseException.__getattribute__"))
  gg : PySem.W.findIn K (.ref C) "__getattr__" = some none
  su : PySem.W.subIn K (.ref C) (.type "BaseException") = some true
  hd : PySem.W.hasDictIn K C = true
  cl : (PySem.W.clsIn K C).isSome = true
  ca : PySem.W.findIn K (.ref C) "__class__" = some (some (.builtin "object.__class__"))
  cg : PySem.W.specialIn K (.builtin "object.__class__") "__get__" = some (some (.builtin "getset_descriptor.__get__"))
  tk : PySem.W.takesIn K (.builtin "object.__class__") = some true
  ob : PySem.W.mroIn K C (.type "object") = some true
/-- a held error at a: its class, its dict -/
def HE (H : Hp) (a C : Addr) (d : Option Addr) : Prop := H a = some (exk (.ref C) d a) ∧ ∀ dx, d = some dx → ∃ fs, H dx = some (.xd fs)
section
variable {X : Cx} {pins : List (Addr × Obj)} {σ : L2.St} {H : Hp} {s : Shared}
theorem he_inst {a C : Addr} {d : Option Addr} (I : Inv X pins σ H s) (h : HE H a C d) : ∃ oe od, PySem.W.InstAt s.heap a oe C od := by
  obtain ⟨oe, vs, e, z, hd⟩ := exk_at I.hok h.1
  cases d with
  | none => exact ⟨oe, none, e, z.1, by unfold PySem.W.notCls; rw [hd] <;> rfl, by rw [z.2]; trivial⟩
  | some dx =>
    obtain ⟨fs, ef⟩ := h.2 dx rfl
    obtain ⟨mA, hns, _⟩ : ObjOk X.prog X.w H s.heap dx (.xd fs) := I.hok dx _ ef
    obtain ⟨od, ho, _⟩ := lookIn_ns hns
    exact ⟨oe, some od, e, z.1, by unfold PySem.W.notCls; rw [hd] <;> rfl, by rw [z.2]; exact ho⟩
def rIsX (K : Fg) : List V → Hp → VK → Prop := fun xs H Q => ∃ (a C : Addr) (d : Option Addr) (c : V) (cv : Value) (b : Bool), xs = [.ref a, c] ∧ ClsV c cv ∧ HE H a C d ∧ Exg K C ∧ PySem.W.kitOne K (.ref C) cv = some b ∧ Q (.bl b) H
def rIsXT (K : Fg) : List V → Hp → VK → Prop := fun xs H Q => ∃ (a C : Addr) (d : Option Addr) (tp : Addr) (cs : List V) (us : List Value) (b : Bool), xs = [.ref a, .ref tp] ∧ H tp = some (.tup cs) ∧ Paired ClsV cs us ∧ HE H a C d ∧ Exg K C ∧ PySem.W.kitAny K (.ref C) us = some b ∧ Q (.bl b) H
theorem cb_isX : CallR X (.builtin "isinstance") (rIsX X.K) := by
  rintro pins s σ H xs us Q I r ⟨a, C, d, c, cv, b, rfl, k, he, T, e, q⟩
  obtain ⟨u1, u2, rfl, r1, r2⟩ := vals2 r
  cases k.eq r2
  cases (show u1 = Value.ref a from r1)
  obtain ⟨oe, od, J⟩ := he_inst I he
  exact PySem.W.kia_one (PySem.W.kitx_exc (od := od) T.cl T.ga T.gg T.su T.ca T.cg T.tk T.ob) I.kIn J e (fun z => nomatch z) fun tk => ⟨.bl b, H, I.tok tk, rfl, q⟩
theorem cb_isXT : CallR X (.builtin "isinstance") (rIsXT X.K) := by
  rintro pins s σ H xs us Q I r ⟨a, C, d, tp, cs, ws, b, rfl, hT, k, he, T, e, q⟩
  obtain ⟨u1, u2, rfl, r1, r2⟩ := vals2 r
  cases (show u2 = Value.ref tp from r2)
  cases (show u1 = Value.ref a from r1)
  obtain ⟨oe, od, J⟩ := he_inst I he
  obtain ⟨_, its, rv, ⟨oc, od2, dt, sl⟩, h1, h2, n, h3⟩ := (show ObjOk X.prog X.w H s.heap tp (.tup cs) from I.hok tp _ hT)
  cases ClsV.all k rv
  simp only at h2 h3
  subst h2 h3
  exact PySem.W.kia_tup (PySem.W.kitx_exc (od := od) T.cl T.ga T.gg T.su T.ca T.cg T.tk T.ob) I.kIn J h1 e (fun z => nomatch z) fun tk => ⟨.bl b, H, I.tok tk, rfl, q⟩
def tXg (K : Fg) (f : Str) (te : TE) : TE := fun σ H Q => te σ H fun x H1 => ∃ (a C dx : Addr) (fs : List (Str × V)) (v : V), x = .ref a ∧ Exg K C ∧ PySem.W.findIn K (.ref C) f = some none ∧ H1 a = some (exk (.ref C) (some dx) a) ∧ H1 dx = some (.xd fs) ∧ fs.lookup f = some v ∧ Q v H1
theorem pe_xg {e : Expr} {te : TE} {pos : Pos} {n : Str} (he : PE X e te) (ab : attributeBase e n X.env (eval e X.env) = eval e X.env := by rfl) : PE X (.Attribute e n pos) (tXg X.K n te) :=
  ⟨fun pins s σ H Q I h => attr_of ab (thn (he.run pins s σ H _ I h) fun u s1 ⟨x, H1, I1, rx, a, C, dx, fs, v, ex, T, no, ea, ed, lf, q⟩ => by
    subst ex
    obtain rfl : u = Value.ref a := rx
    obtain ⟨oe, vs, e1, z, hd⟩ := exk_at I1.hok ea
    obtain ⟨mA, hns, rel⟩ : ObjOk X.prog X.w H1 s1.heap dx (.xd fs) := I1.hok dx _ ed
    obtain ⟨od, ho, hl⟩ := lookIn_ns hns
    obtain ⟨u, hu, ru⟩ := RelO.some_of (v := v) (o := mA n) (by rw [← lf]; exact rel n)
    have J : PySem.W.InstAt s1.heap a oe C (some od) := ⟨e1, z.1, by unfold PySem.W.notCls; rw [hd] <;> rfl, by rw [z.2]; exact ho⟩
    exact HandSPX.exc_get I1.kIn J T.ga T.gg T.su (PySem.W.findObj_own T.hd no rfl (by rw [hl, hu])) (handed_of ru) ⟨v, H1, I1.tok _, ru, q⟩)⟩
end
end Pw
/-! defs that may raise; a try that holds the error -/
namespace Pw
open PySem L2 PySem.Spec PyProof.Rows
abbrev Gx := List Dx → Sto → Value → Option (Str × PyData) → Sto → Prop
def Exk (K : Fg) (M : List Addr) (s' : Sto) (cls : Value) (fo : Option (Str × PyData)) (H : Hp) (E : XK) : Prop := ∀ d H', Same (hid M H) (hid M H') → So K M s' H' → XD K M H' d fo → E cls d H'
def spX (K : Fg) (R : Gr) (RX : Gx) : Sp := fun vs H Q E => ∃ M xs s, So K M s H ∧ RXs K M H vs xs ∧ ((∃ x s', R xs s x s' ∧ Okk K M s' x H Q) ∨ ∃ cls fo s', RX xs s cls fo s' ∧ Exk K M s' cls fo H E)
theorem spX_len {K : Fg} {R : Gr} {RX : Gx} {l : Nat} (h : ∀ xs s x s', R xs s x s' → xs.length = l) (h2 : ∀ xs s c f s', RX xs s c f s' → xs.length = l) : ∀ vs H Q E, spX K R RX vs H Q E → vs.length = l := fun vs H Q E ⟨_, _, _, _, hr, q⟩ => by
  rcases q with ⟨_, _, r, _⟩ | ⟨_, _, _, r, _⟩
  · exact hr.len.trans (h _ _ _ _ r)
  · exact hr.len.trans (h2 _ _ _ _ _ r)
section
variable {K : Fg} {ρ ρ' : En} {s s1 s2 s3 : Sto} {x y z : Dx} {xs ys zs : List Dx} {ta tb te : TE} {tas tks : TA} {t u : TT} {b c : Bool} {n m i j : Nat} {X : Cx} {cls : Value} {fo : Option (Str × PyData)} {E : L2.St → XK}
  {M0 M : List Addr} {H0 H H1 : Hp} {F : Kp} {D : Ends} {σ : L2.St} {P : L2.St → Hp → Prop} {tu tw : TS} {R : Gr} {RX : Gx}
theorem Exk.step {M : List Addr} {H H1 : Hp} {E : XK} (q : Exk K M s cls fo H E) (e : Same (hid M H) (hid M H1)) : Exk K M s cls fo H1 E := fun d H2 e2 => q d H2 (e.trans e2)
/-- the expression raises -/
def Evx (K : Fg) (te : TE) (E : L2.St → XK) (ρ : En) (s : Sto) (cls : Value) (fo : Option (Str × PyData)) (s' : Sto) : Prop := ∀ M σ H, So K M s H → RE K M H σ ρ → Exk K M s' cls fo H (E σ) → ∀ Q : VK, te σ H Q
theorem ev_callS (ha : Eva K tas ρ s xs s1) (hR : R xs s1 z s2) : Ev K (tCallS (spX K R RX) E tas) ρ s z s2 := fun M σ H S Re Q q => ha M σ H S Re _ fun vs H1 e1 S1 r1 => ⟨M, xs, s1, S1, r1, .inl ⟨z, s2, hR, q.step e1⟩⟩
theorem evx_callS (ha : Eva K tas ρ s xs s1) (hR : RX xs s1 cls fo s2) : Evx K (tCallS (spX K R RX) E tas) E ρ s cls fo s2 := fun M σ H S Re q Q => ha M σ H S Re _ fun vs H1 e1 S1 r1 => ⟨M, xs, s1, S1, r1, .inr ⟨cls, fo, s2, hR, q.step e1⟩⟩
def tCallKS (l : Nat) (sp : Sp) (gV : List V → List V) (E : L2.St → XK) (tk : TA) : TE := fun σ H Q => tk σ H fun zs H1 => zs.length = l ∧ sp (gV zs) H1 Q (E σ)
theorem ev_callKS {gV : List V → List V} {l : Nat} (hk : Eva K tks ρ s ys s1) (hl : ys.length = l) (hg : ∀ M H zs, RXs K M H zs ys → RXs K M H (gV zs) xs) (hR : R xs s1 z s2) : Ev K (tCallKS l (spX K R RX) gV E tks) ρ s z s2 := fun M σ H S Re Q q =>
  hk M σ H S Re _ fun zs H1 e1 S1 r1 => ⟨r1.len.trans hl, M, xs, s1, S1, hg M H1 zs r1, .inl ⟨z, s2, hR, q.step e1⟩⟩
theorem evx_callKS {gV : List V → List V} {l : Nat} (hk : Eva K tks ρ s ys s1) (hl : ys.length = l) (hg : ∀ M H zs, RXs K M H zs ys → RXs K M H (gV zs) xs) (hR : RX xs s1 cls fo s2) : Evx K (tCallKS l (spX K R RX) gV E tks) E ρ s cls fo s2 := fun M σ H S Re q Q =>
  hk M σ H S Re _ fun zs H1 e1 S1 r1 => ⟨r1.len.trans hl, M, xs, s1, S1, hg M H1 zs r1, .inr ⟨cls, fo, s2, hR, q.step e1⟩⟩
theorem evx_if (h : EvT K t ρ s b s1) (h1 : b = true → Evx K ta E ρ s1 cls fo s2) (h2 : b = false → Evx K tb E ρ s1 cls fo s2) : Evx K (tIf t ta tb) E ρ s cls fo s2 := fun M σ H S Re q Q => h M σ H S Re _ fun H1 e S1 => by
  cases b with
  | true => exact h1 rfl M σ H1 S1 (Re.mono e) (q.step e) Q
  | false => exact h2 rfl M σ H1 S1 (Re.mono e) (q.step e) Q
/-- what a wish on errors wants at a frame -/
def Wx (K : Fg) (M0 : List Addr) (H0 : Hp) (F : Kp) (W : WX) (ρ : En) (s : Sto) (cls : Value) (fo : Option (Str × PyData)) : Prop := ∀ M σ H d, Rl K M0 H0 F M s ρ σ H → XD K M H d fo → W cls d σ H
theorem w_asgX {V : WX} {tg : TG} (h : Evx K te (WE V) ρ s cls fo s1) (k : Wx K M0 H0 F V ρ s1 cls fo) : W K M0 H0 F (tAsg te tg D) ρ s := fun M σ H R => h M σ H R.so R.re (fun d H' e S x => k M σ H' d (R.step e S) x) _
theorem w_retX {V : WX} (h : Evx K te (WE V) ρ s cls fo s1) (k : Wx K M0 H0 F V ρ s1 cls fo) : W K M0 H0 F (tRet te D) ρ s := fun M σ H R => h M σ H R.so R.re (fun d H' e S x => k M σ H' d (R.step e S) x) _
/-- out of the def -/
theorem wx_out {E : XK} (hl : s.length = M0.length) (q : Exk K M0 s cls fo H0 E) : Wx K M0 H0 F (fun c d _ H => E c d H) ρ s cls fo := fun M σ H d R x => by
  obtain ⟨N, hM, _⟩ := id R.ext
  have e : N = [] := by
    have := R.so.len
    rw [hM, List.length_append, hl] at this
    exact List.eq_nil_of_length_eq_zero (by omega)
  subst e
  rw [List.append_nil] at hM
  subst hM
  exact q d H R.same R.so x
/-- one listed class takes it -/
theorem wx_keep {cs : List Value} {V : WX} (he : PySem.W.exmAny K cls cs = some true) (k : W K M0 H0 F D.nx (((ρ.set i (some (.exc cls fo))).set j (some (.exc cls fo))).set i none) s) : Wx K M0 H0 F (wKeep K cs i j V D) ρ s cls fo := fun M σ H d R x =>
  ⟨true, he, fun _ a na => by
    have e : Same (hid M H) (hid M (upd H a (exk cls d a))) := hid_new na
    have R1 := R.step e (R.so.new na)
    have ao : a ∉ M := R.so.free na
    have rx : RX K M (upd H a (exk cls d a)) (.ref a) (.exc cls fo) := ⟨a, d, rfl, by rw [hid_out ao, upd_same], x.up e⟩
    have R2 := (R1.set (n := i) rx).set (n := j) rx
    refine k M _ _ ⟨R2.ext, R2.same, R2.so, ⟨by simpa using R2.re.len, fun l y hy => ?_⟩, R2.kp⟩
    by_cases c : i = l
    · subst c
      by_cases hlt : i < ((ρ.set i (some (.exc cls fo))).set j (some (.exc cls fo))).length
      · rw [List.getElem?_set_self hlt] at hy
        cases hy
      · rw [List.getElem?_eq_none (by simpa using hlt)] at hy
        cases hy
    · rw [List.getElem?_set_ne c] at hy ⊢
      exact R2.re.at_ l y hy, fun z => nomatch z⟩
/-- held errors asked -/
theorem o_isNX : Op2 K rIs (.exc cls fo) (.d .none) s (.d (.bool false)) s := fun M H v w S r1 r2 Q q => by
  obtain ⟨a, d, rfl, h, x⟩ := r1
  cases r2
  refine .inl ⟨rfl, ?_⟩
  rw [decide_eq_false (show ¬ V.ref a = V.non from fun z => nomatch z)]
  exact q.here S (.bl _)
theorem rx_he {a C : Addr} {d : Option Addr} {M : List Addr} {H : Hp} (h : hid M H a = some (exk (.ref C) d a)) (x : XD K M H d fo) : HE H a C d := ⟨(hid_some h).2, fun dx e => by
  cases x with
  | none => cases e
  | one h1 h2 => cases e; exact ⟨_, (hid_some h1).2⟩⟩
theorem ev_isX {C : Addr} {v : V} {cv : Value} (h : Ev K te ρ s (.exc (.ref C) fo) s1) (T : Exg K C) (k : ClsV v cv) (e : PySem.W.kitOne K (.ref C) cv = some b) : Ev K (tCB (rIsX K) (tCons te (tCons (tC v) tNil))) ρ s (.d (.bool b)) s1 := fun M σ H S Re Q q =>
  h M σ H S Re _ fun w H1 e1 S1 ⟨a, d, ew, h1, x⟩ => ⟨a, C, d, v, cv, b, by rw [ew], k, rx_he h1 x, T, e, (q.step e1).here S1 (.bl b)⟩
theorem ev_xg {C : Addr} {f : Str} {y : PyData} (h : Ev K te ρ s (.exc (.ref C) (some (f, y))) s1) (T : Exg K C) (no : PySem.W.findIn K (.ref C) f = some none) : Ev K (tXg K f te) ρ s (.d y) s1 := fun M σ H S Re Q q =>
  h M σ H S Re _ fun w H1 e1 S1 ⟨a, d, ew, h1, x⟩ => by
    cases x with
    | @one dx _ v _ g1 g2 => exact ⟨a, C, dx, _, v, ew, T, no, (hid_some h1).2, (hid_some g1).2, by simp [List.lookup], (q.step e1).here S1 g2⟩
/-! ### raising -/
def spIni (K : Fg) (C : Addr) (f : Str) : Sp := fun vs H Q _ => ∃ (a : Addr) (y : V) (tl : List Value) (nw : String), vs = [.ref a, y] ∧ Oxg K C tl nw ∧ PySem.W.findIn K (.ref C) f = some none ∧ H a = some (exo a C none) ∧
  ∀ dx, H dx = none → dx ≠ a → Q .non (upd (upd H dx (exd dx [(f, y)])) a (exo a C (some dx)))
def tRaise (C : Addr) (sp : Sp) (ta : TA) (V : WX) : TS := fun _ σ H => tMkO C sp [] ta σ H fun cls d H' => V cls d σ H'
theorem w_raise {C : Addr} {f : Str} {V : WX} {y : PyData} {tl : List Value} {nw : String} (T : Oxg K C tl nw) (no : PySem.W.findIn K (.ref C) f = some none) (ha : Eva K tas ρ s [.d y] s1) (k : Wx K M0 H0 F V ρ s1 (.ref C) (some (f, y))) : W K M0 H0 F (tRaise C (spIni K C f) tas V D) ρ s := fun M σ H R =>
  ha M σ H R.so R.re _ fun vs H1 e S1 r => by
    cases r with
    | @cons v _ _ _ h r =>
      cases r
      refine ⟨by simp, fun a na => ⟨a, v, tl, nw, rfl, T, no, upd_same, fun dx n ne => ?_⟩⟩
      rw [upd_ne ne] at n
      refine ⟨rfl, dx, [(f, v)], upd_same, ?_, n, ?_⟩
      · rw [upd_ne ne, upd_same]
      · have eq : upd (del (upd (upd (upd H1 a (exo a C none)) dx (exd dx [(f, v)])) a (exo a C (some dx))) a) dx (.xd [(f, v)]) = upd H1 dx (.xd [(f, v)]) := by
          funext b
          by_cases c1 : b = dx
          · rw [c1, upd_same, upd_same]
          · rw [upd_ne c1, upd_ne c1]
            by_cases c2 : b = a
            · rw [c2, del_same, na]
            · rw [del_ne c2, upd_ne c2, upd_ne c1, upd_ne c2]
        show V _ _ σ _
        rw [eq]
        have e2 : Same (hid M H1) (hid M (upd H1 dx (.xd [(f, v)]))) := hid_new n
        exact k M σ _ _ (R.step (e.trans e2) (S1.new n)) (.one (by rw [hid_out (S1.free n), upd_same]) (At.mono e2 _ _ h))
end
section
variable {P : Program} {w : World} {K : Fg} {mg : Str → Option Value} {base : Heap} {X : Cx}
/-- a def that may raise, called positionally; by keywords -/
structure CbX (P : Program) (w : World) (K : Fg) (mg : Str → Option Value) (base : Heap) (x : Str) (lv : Nat) (sp : Sp) : Prop where
  ex : ∃ (f : Addr) (fd : FuncData) (ps : List Str), mg x = some (.ref f) ∧ PySem.W.keepIn K (.ref f) = true ∧ FnOk P w K mg base (L2.CX P w) lv f fd ps sp ∧ Binds K fd ps []
structure CkX (P : Program) (w : World) (K : Fg) (mg : Str → Option Value) (base : Heap) (x : Str) (lv : Nat) (ks : List Str) (g : {α : Type} → List α → List α) (sp : Sp) : Prop where
  ex : ∃ (f : Addr) (fd : FuncData) (ps : List Str) (g' : List Value → List Value → List Value), mg x = some (.ref f) ∧ PySem.W.keepIn K (.ref f) = true ∧ FnOk P w K mg base (L2.CX P w) lv f fd ps sp ∧ KBn K fd ps 0 ks g' (fun _ zs => g zs)
theorem pe_cbX {fx : Str} {lv : Nat} {sp : Sp} {p pos : Pos} {e : Expr} {es : List Expr} {t : TA} {V : WX} (C : CbX X.prog X.w X.K X.mg X.base fx lv sp) (hr : Room lv X.A) (hg : Gl X fx) (tk : Takes X V) (ha : PA X (e :: es) t)
    (hdb : (fx == ("__debug__" : Str)) = false := by decide) (he : starEach (e :: es) X.env = (false, eval e X.env) :: starEach es X.env := by rfl)
    (hpl : (backTo pos (starEach es X.env)).any (·.1) = false := by rfl) : PE X (.Call (.Name fx p) (e :: es) [] pos) (tCallS sp (WE V) t) := by
  obtain ⟨f, fd, ps, h1, h2, h3, h4⟩ := C.ex
  exact pe_callS h3 hr hg h1 h2 h4 (fun σ => passAt tk σ) ha hdb he hpl
theorem pe_ckX {fx : Str} {lv : Nat} {ks : List Str} {g : {α : Type} → List α → List α} {sp : Sp} {p pos : Pos} {kws : List Keyword} {tk : TA} {V : WX} (C : CkX X.prog X.w X.K X.mg X.base fx lv ks g sp) (hr : Room lv X.A) (hg : Gl X fx) (to : Takes X V) (hkw : PK X kws tk)
    (hall : (backToKw pos (keywordEach kws X.env)).all (·.1.isSome) = true := by rfl) (hks : (backToKw pos (keywordEach kws X.env)).filterMap (·.1) = ks := by rfl) (hdb : (fx == ("__debug__" : Str)) = false := by decide)
    (hpl : ((backTo pos (starEach [] X.env)).any (·.1) || (backToKw pos (keywordEach kws X.env)).any (·.1.isNone)) = false := by rfl) : PE X (.Call (.Name fx p) [] kws pos) (tCallKS ks.length sp (fun zs => g zs) (WE V) tk) := by
  obtain ⟨f, fd, ps, g', h1, h2, h3, h4⟩ := C.ex
  refine ⟨fun pins s σ H Q I h => wpAny_Call_Name_kw (ld_glob I hg h1 (PySem.W.callWith_KW0 (h₀ := X.base) I.ok.mod.kin h2 hall (thn (hkw.run pos pins s σ H _ I h) fun ws s2 ⟨zs, H2, I2, rz, l2, q2⟩ => ⟨I2.kIn, ?_⟩) hpl) hdb)⟩
  rw [hks]
  have r2 := h4.rel (us := []) (vs := []) .nil rz
  refine wpAny_call (codeAny_mono (h3.run X.A X.stack s2 H2 ⟨[], ks.zip ws⟩ (g' [] ws) (g zs) Q (WE V σ) hr I2.env0 (h4.to s2 [] ws I2.kIn rfl (rz.length.symm.trans l2)) r2 q2) fun r s' z => ?_)
  cases r with
  | error e => exact passAt to σ pins H2 s2 e s' I2 z
  | ok fl =>
    cases fl with
    | ret u => exact I2.after z
    | next => exact z.elim
    | brk => exact z.elim
    | cont => exact z.elim
theorem ps_raiseF {CX : CXT} {x : Str} {C fI : Addr} {tl : List Value} {newId : String} {k : Nat} {fd : FuncData} {ps : List Str} {sp : Sp} {e : Expr} {es : List Expr} {ta : TA} {p pos pos' : Pos} {V : WX} (hc : X.calm = true) (tk : Takes X V) (T : Oxg X.K C tl newId) (iC : PySem.W.findIn X.K (.ref C) "__init__" = some (some (.ref fI)))
    (tI : PySem.W.typeIn X.K (.ref fI) = some (.type "function")) (G : FnOk X.prog X.w X.K X.mg X.base CX k fI fd ps sp) (hr : Room (k + 1) X.A) (hb : Binds X.K fd ps []) (pass : Passes CX X (fun _ _ _ => False)) (hg : Gl X x) (hm : X.mg x = some (.ref C)) (ha : PA X (e :: es) ta)
    (db : (x == ("__debug__" : Str)) = false := by decide) (st : starEach (e :: es) X.env = (false, eval e X.env) :: starEach es X.env := by rfl) (pl : (backTo pos (starEach es X.env)).any (·.1) = false := by rfl) :
    PS X (.Raise (some (.Call (.Name x p) (e :: es) [] pos)) none pos') (tRaise C sp ta V) := ps_raise hc tk (pmk_first T iC tI G hr hb .nil pass hg hm ha db st pl)
/-- the __init__ of such a class -/
theorem ok_ini {nm qual : Str} {st : Stmt} {f C : Addr} {fd : FuncData} {N : List Str} {a b fld : Str} {p1 p2 p3 p4 : Pos} (G : Fun K nm qual st f fd) (S : FnScope N [a, b] (defScope st)) (hb : defBody st = [.Assign [.Attribute (.Name a p1) fld p2] (.Name b p3) p4]) (h0 : N = [a, b])
    (da : (a == ("__debug__" : Str)) = false := by decide) (ca : (a == ("__classdict__" : Str)) = false := by decide) (db : (b == ("__debug__" : Str)) = false := by decide) (cb : (b == ("__classdict__" : Str)) = false := by decide)
    (va : ∀ X : Cx, X.env.scope = defScope st → Vis X.env.scope a ∧ Vis X.env.scope b) (sw : ∀ env : Env, swapsWith (.Name b p3) (some (.Attribute (.Name a p1) fld p2)) p4.line env = pure false := by intro _; rfl) : FnOk P w K mg base CX0 1 f fd [a, b] (spIni K C fld) := by
  refine G.ok S (fun vs H Q E ⟨_, _, _, _, e, _⟩ => by rw [e]; rfl) (fun cdv A outer s H vs Q E hr ⟨x, y, tl, nw, e, T, no, hx, q⟩ => ?_)
  subst e h0
  rw [hb]
  have v := va (cxOf CX0 P w K mg base [a, b] qual (defScope st) f cdv A outer s H E).nox rfl
  refine ⟨_, pss_one (ps_first (pe_var (i := 0) rfl v.1 da ca) (pe_var (i := 1) rfl v.2 db cb) (sw _)), ?_⟩
  exact ⟨y, rfl, .ref x, rfl, x, C, tl, nw, rfl, T, no, hx, fun dx n ne => q dx n ne⟩
theorem cbk_isX (hK : X.K = K := by rfl) : CallR X (.builtin "isinstance") (rIsX K) := hK ▸ cb_isX
theorem cbk_isXT (hK : X.K = K := by rfl) : CallR X (.builtin "isinstance") (rIsXT K) := hK ▸ cb_isXT
theorem pe_xgK {e : Expr} {te : TE} {pos : Pos} {n : Str} (he : PE X e te) (hK : X.K = K := by rfl) (ab : attributeBase e n X.env (eval e X.env) = eval e X.env := by rfl) : PE X (.Attribute e n pos) (tXg K n te) := hK ▸ pe_xg he ab
end
section
variable {K : Fg} {ρ : En} {s s1 : Sto} {te : TE} {fo : Option (Str × PyData)} {b : Bool}
theorem tup_isX {C : Addr} {vs : List V} {cvs : List Value} {tas : TA} (h : Ev K te ρ s (.exc (.ref C) fo) s1) (ht : ∀ σ H (Q : List V → Hp → Prop), Q vs H → tas σ H Q) (T : Exg K C) (k : Paired ClsV vs cvs) (hl : vs.length ≤ 1000) (e : PySem.W.kitAny K (.ref C) cvs = some b) :
    Ev K (tCB (rIsXT K) (tCons te (tCons (tTup tas) tNil))) ρ s (.d (.bool b)) s1 := fun M σ H S Re Q q =>
  h M σ H S Re _ fun w H1 e1 S1 ⟨a, d, ew, h1, x⟩ => ht σ H1 _ ⟨by first | exact hl | exact Nat.le_trans hl (by rw [sizeLine_eq]; decide), fun tp n => by
    have e2 : Same (hid M H1) (hid M (upd H1 tp (.tup vs))) := hid_new n
    have := rx_he (e2 _ _ h1) (x.up e2)
    exact ⟨a, C, d, tp, vs, cvs, b, by rw [ew], upd_same, k, this, T, e, (q.step (e1.trans e2)).here (S1.new n) (.bl b)⟩⟩
end
end Pw
namespace Pw
open PySem L2
section
variable {K : Fg} {ρ ρ' : En} {s s1 s2 s3 : Sto} {x y z : Dx} {te : TE} {ta : TA} {n m : Nat} {M0 M : List Addr} {H0 H : Hp} {F : Kp} {D : Ends} {X : Cx} {i j : Int}
theorem iop_addA : PIp X .Add (ipI fun i j => i + j) := ip_add
theorem o_iadd : Op2 K (ipI fun i j => i + j) (.d (.int i)) (.d (.int j)) s (.d (.int (i + j))) s := fun M H v w S r1 r2 Q q => by
  cases r1; cases r2
  exact ⟨i, j, rfl, rfl, q.here S (.int _)⟩
/-- for x in range(i, j, -1) -/
theorem w_forD {tb : TS} {i0 j0 : Int} (h : Eva K ta ρ s [.d (.int i0), .d (.int j0), .d (.int (-1))] s1) (a1 : -(2 ^ 62) ≤ i0) (a2 : i0 < 2 ^ 62) (b1 : -(2 ^ 62) ≤ j0) (b2 : j0 < 2 ^ 62) (I : Nat → En → Sto → Prop) (h0 : I 0 ρ s1)
    (hs : ∀ (i : Nat) ρ' s' (N : L2.St → Hp → Prop), i < (i0 - j0).toNat → I i ρ' s' → (∀ ρ2 s2, I (i + 1) ρ2 s2 → W K M0 H0 F N ρ2 s2) → W K M0 H0 F (tb { D with nx := N, ct := N, bk := D.nx }) (ρ'.set n (some (.d (.int (i0 - (i : Int)))))) s')
    (hd : ∀ ρ' s', I (i0 - j0).toNat ρ' s' → W K M0 H0 F D.nx ρ' s') : W K M0 H0 F (tFor (iRng3 ta) (gName n) tb D) ρ s := fun M σ H R => by
  refine h M σ H R.so R.re _ fun vs H1 e S r => ?_
  cases r with
  | cons r1 r =>
    cases r with
    | cons r2 r =>
      cases r with
      | cons r3 r =>
        cases r
        cases r1; cases r2; cases r3
        refine ⟨i0, j0, -1, (i0 - j0).toNat, rfl, RgC.neg a1 a2 b1 b2, ?_⟩
        refine for_rangeC (fun i σ H => ∃ M s ρ, Rl K M0 H0 F M s ρ σ H ∧ I i ρ s) ⟨M, _, _, R.step e S, h0⟩ (fun i σ H hi ⟨M, s, ρ, R, hI⟩ => ?_) (fun σ H ⟨M, s, ρ, R, hI⟩ => hd ρ s hI M σ H R)
        have e : i0 + (i : Int) * -1 = i0 - (i : Int) := by omega
        rw [e]
        exact hs i ρ s _ hi hI (fun ρ2 s2 h2 M σ H R => ⟨M, s2, ρ2, R, h2⟩) M _ _ (R.set (x := .d (.int (i0 - (i : Int)))) (.int _))
/-- a constant of the module -/
theorem ev_tref {T : Addr} {d : PyData} (h : ∀ H, At K H (.ref T) d) : Ev K (tC (.ref T)) ρ s (.d d) s := fun M σ H S R Q q => q.here S (h _)
end
end Pw
namespace Pw
open PySem L2
section
variable {K : Fg} {X : Cx} {s : Sto}
/-! ### texts: so many times, str and int of numbers, their length -/
def rMulS : R2 := fun x y H Q => ∃ a k, x = .str a ∧ y = .int k ∧ MulOk a k ∧ Q (.str (Txt.mul a k)) H
theorem op_mulS : OpR X (binaryOp .Mult) rMulS := by
  intro pins s σ H x y v u Q I rx ry h
  obtain ⟨a, k, rfl, rfl, ok, q⟩ := h
  obtain ⟨t, rfl⟩ := rx
  obtain ⟨t', rfl⟩ := ry
  exact PySem.SB.mul ok (fun t' tk => ⟨.str _, H, I.tok _, ⟨_, rfl⟩, q⟩)
theorem o_mulS {a : Str} {k : Int} (h : MulOk a k) : Op2 K rMulS (.d (.str a)) (.d (.int k)) s (.d (.str (Txt.mul a k))) s := fun M H v w S r1 r2 Q q => by
  cases r1; cases r2
  exact ⟨a, k, rfl, rfl, h, q.here S (.str _)⟩
def rStrI : List V → Hp → VK → Prop := fun xs H Q => ∃ i, xs = [.int i] ∧ i.natAbs.log2 < 1920 ∧ Q (.str (toString i)) H
theorem cb_strI : CallR X (.type "str") rStrI := call_str_int
theorem o_strI {i : Int} (h : i.natAbs.log2 < 1920) : OpC K rStrI [.d (.int i)] s (.d (.str (toString i))) s := fun M H vs S r Q q => by
  cases r with
  | cons h1 t =>
    cases t
    cases h1
    exact ⟨i, rfl, h, q.here S (.str _)⟩
def rIntS : List V → Hp → VK → Prop := fun xs H Q => ∃ a n, xs = [.str a] ∧ PySem.intText? a = some n ∧ a.length ≤ 640 ∧ Q (.int n) H
theorem cb_intS : CallR X (.type "int") rIntS := call_int_str
theorem o_intS {a : Str} {n : Int} (h : PySem.intText? a = some n) (hl : a.length ≤ 640) : OpC K rIntS [.d (.str a)] s (.d (.int n)) s := fun M H vs S r Q q => by
  cases r with
  | cons h1 t =>
    cases t
    cases h1
    exact ⟨a, n, rfl, h, hl, q.here S (.int _)⟩
end
/-- the text of a 1 and so many noughts is a number whose square is above what has no more figures than that -/
theorem zeros_val : ∀ (n : Nat) (a : Nat), (List.replicate n 48).foldl (fun acc c => acc * 10 + (c - 48)) a = a * 10 ^ n
  | 0, a => by simp
  | n + 1, a => by
    rw [List.replicate_succ, List.foldl_cons, zeros_val n, Nat.pow_succ]
    show (a * 10 + 0) * 10 ^ n = _
    rw [Nat.add_zero, Nat.mul_assoc, Nat.mul_comm 10]
theorem mul_zeros {h : Nat} (h1 : 1 ≤ h) : Txt.mul (Str.ofString "0") (h : Int) = SX.S (List.replicate h 48) := by
  unfold Txt.mul
  rw [if_neg (by omega)]
  have e0 : (Str.ofString "0") = SX.S [48] := by decide +kernel
  rw [e0]
  by_cases c : h = 1
  · subst c
    rfl
  · rw [if_neg (by
      have : (SX.S [48]).length = 1 := rfl
      rw [this]
      simp
      omega), Int.toNat_natCast]
    have : ∀ (k : Nat) (acc : List Nat), List.foldl (fun x1 x2 => x1 ++ x2) acc.toArray (List.replicate k #[48]) = (acc ++ List.replicate k 48).toArray := by
      intro k
      induction k with
      | zero => intro acc; simp
      | succ k ih =>
        intro acc
        rw [List.replicate_succ, List.foldl_cons, show acc.toArray ++ #[48] = (acc ++ [48]).toArray by simp, ih, List.replicate_succ]
        simp
    have e := this h []
    rw [List.nil_append] at e
    exact congrArg Str.mk e
theorem one_zeros {h : Nat} (h1 : 1 ≤ h) (h2 : h ≤ 600) : PySem.intText? (Str.ofString "1" ++ SX.S (List.replicate h 48)) = some ((10 ^ h : Nat) : Int) ∧ (Str.ofString "1" ++ SX.S (List.replicate h 48)).length ≤ 640 := by
  have e0 : (Str.ofString "1") = SX.S [49] := by decide +kernel
  rw [e0]
  have e : SX.S [49] ++ SX.S (List.replicate h 48) = SX.S (49 :: List.replicate h 48) := by
    show Str.mk (_ ++ _) = Str.mk _
    simp
  rw [e]
  constructor
  · rw [SX.int_S (by simp) (by simp) (by simp; omega)]
    congr 1
    congr 1
    show (List.replicate h 48).foldl (fun acc c => acc * 10 + (c - 48)) (0 * 10 + (49 - 48)) = _
    rw [zeros_val]
    simp
  · show (49 :: List.replicate h 48).toArray.size ≤ 640
    simp
    omega
theorem num_len (n : Nat) : 1 ≤ (Str.ofString (toString ((n : Nat) : Int))).length ∧ n < 10 ^ (Str.ofString (toString ((n : Nat) : Int))).length ∧ ∀ k, 1 ≤ k → n < 10 ^ k → (Str.ofString (toString ((n : Nat) : Int))).length ≤ k := by
  have e : (Str.ofString (toString ((n : Nat) : Int))).length = (Nat.toDigits 10 n).length := by
    rw [show ((n : Nat) : Int) = Int.ofNat n from rfl, PyProof.Rows.text_ofNat]
    show (((Nat.toDigits 10 n).map Char.toNat).toArray).size = _
    simp
  rw [e]
  refine ⟨PyProof.Rows.tDigits_len_ge 10 n, ?_, fun k h1 h => PyProof.Rows.digits10_le h1 h⟩
  rcases Nat.lt_or_ge n (10 ^ (Nat.toDigits 10 n).length) with c | c
  · exact c
  · have := PyProof.Rows.digits10_ge c
    omega
end Pw
namespace Pw
open PySem L2
section
variable {K : Fg} {ρ ρ' : En} {s s1 s2 s3 : Sto} {x y z : Dx} {xs : List Dx} {te : TE} {tas ta : TA} {n m l : Nat} {M0 M : List Addr} {H0 H : Hp} {F : Kp} {D : Ends} {X : Cx} {i j : Int}
/-- a, b, c = e1, e2, e3 (no tuple) -/
theorem w_par3 (h : Eva K tas ρ s [x, y, z] s1) (k : W K M0 H0 F D.nx (((ρ.set n (some x)).set m (some y)).set l (some z)) s1) : W K M0 H0 F (tPar3 n m l tas D) ρ s := fun M σ H R =>
  h M σ H R.so R.re _ fun vs H1 e S r => by
    cases r with
    | cons h1 r =>
      cases r with
      | cons h2 r =>
        cases r with
        | cons h3 r =>
          cases r
          exact ⟨_, _, _, rfl, k M _ H1 ((((R.step e S).set h1).set h2).set h3)⟩
/-- a def of which only a relation is known between what is handed in and what is told: the asker is ready for each such answer -/
def spP (K : Fg) (R : Gr) : Sp := fun vs H Q _ => ∃ M xs s, (∃ x s', R xs s x s') ∧ So K M s H ∧ RXs K M H vs xs ∧ ∀ x s', R xs s x s' → Okk K M s' x H Q
theorem spP_len {R : Gr} {l : Nat} (h : ∀ xs s x s', R xs s x s' → xs.length = l) : ∀ vs H Q E, spP K R vs H Q E → vs.length = l := fun vs H Q E ⟨_, _, _, ⟨_, _, hR⟩, _, hr, _⟩ => hr.len.trans (h _ _ _ _ hR)
theorem w_asgP {R : Gr} {E : XK} (ha : Eva K tas ρ s xs s1) (hR : ∃ x s', R xs s1 x s') (k : ∀ x s2, R xs s1 x s2 → W K M0 H0 F D.nx (ρ.set n (some x)) s2) : W K M0 H0 F (tAsg (tCall (spP K R) [] E tas) (gName n) D) ρ s := fun M σ H Rl =>
  ha M σ H Rl.so Rl.re _ fun vs H1 e1 S1 r1 => ⟨M, xs, s1, hR, S1, by rw [List.append_nil]; exact r1, fun x s2 hx v H2 e2 S2 r2 => k x s2 hx M _ H2 ((Rl.step (e1.trans e2) S2).set r2)⟩
/-- for x in (.., ..) (a tuple) -/
theorem set_app {st : Sto} {ds : List PyData} {l : Nat} {X Y : List PyData} (h : l < st.length) : (st.set l X ++ [ds]).set l Y = st.set l Y ++ [ds] := by
  rw [List.set_append_left _ _ (by rw [List.length_set]; exact h), List.set_set]
theorem get_app2 {st : Sto} {ds : List PyData} {l : Nat} {X : List PyData} (h : l < st.length) : (st.set l X ++ [ds])[l]? = some X := by
  rw [List.getElem?_append_left (by rw [List.length_set]; exact h), List.getElem?_set_self h]
theorem get_last {st : Sto} {ds : List PyData} {l : Nat} {X : List PyData} : (st.set l X ++ [ds])[st.length]? = some ds := by
  rw [List.getElem?_append_right (by rw [List.length_set]; exact Nat.le_refl _), List.length_set, Nat.sub_self]
  rfl
theorem set_last {st : Sto} {ds es : List PyData} {l : Nat} {X : List PyData} : (st.set l X ++ [ds]).set st.length es = st.set l X ++ [es] := by
  rw [List.set_append_right _ _ (by rw [List.length_set]; exact Nat.le_refl _), List.length_set, Nat.sub_self]
  rfl
end
end Pw
namespace Pw
open PySem L2
section
variable {K : Fg} {ρ ρ' : En} {s s1 s2 s3 : Sto} {x y z : Dx} {xs : List Dx} {te tl : TE} {tas ta : TA} {tb : TS} {n m l : Nat} {M0 M : List Addr} {H0 H : Hp} {F : Kp} {D : Ends} {X : Cx} {i j : Int}
/-- what a target does with data -/
def Gb (K : Fg) (g : TG) (d : PyData) (b : En → En) : Prop := ∀ (M0 : List Addr) (H0 : Hp) (F : Kp) (M : List Addr) (s : Sto) (ρ : En) (σ : L2.St) (H : Hp) (v : V) (Q : L2.St → Hp → Prop), Rl K M0 H0 F M s ρ σ H → At K (hid M H) v d → (∀ σ', Rl K M0 H0 F M s (b ρ) σ' H → Q σ' H) → g v σ H Q
theorem gb_name {d : PyData} : Gb K (gName n) d (fun ρ => ρ.set n (some (.d d))) := fun M0 H0 F M s ρ σ H v Q R a q => q _ (R.set (x := .d d) a)
theorem gb_tup2 {g1 g2 : TG} {d1 d2 : PyData} {b1 b2 : En → En} (h1 : Gb K g1 d1 b1) (h2 : Gb K g2 d2 b2) : Gb K (gTup K 2 (gCons g1 (gCons g2 gNil))) (.tuple [d1, d2]) (fun ρ => b2 (b1 ρ)) := fun M0 H0 F M s ρ σ H v Q R a q => by
  cases a with
  | tup hs a =>
    cases a with
    | cons a1 a =>
      cases a with
      | cons a2 a =>
        cases a
        refine ⟨_, _, rfl, same_t hid_same hs, rfl, _, _, rfl, h1 M0 H0 F M s ρ σ H _ _ R a1 fun σ1 R1 => ⟨_, _, rfl, h2 M0 H0 F M s _ σ1 H _ _ R1 a2 fun σ2 R2 => ⟨rfl, q σ2 R2⟩⟩⟩
theorem gb_tup3 {g1 g2 g3 : TG} {d1 d2 d3 : PyData} {b1 b2 b3 : En → En} (h1 : Gb K g1 d1 b1) (h2 : Gb K g2 d2 b2) (h3 : Gb K g3 d3 b3) : Gb K (gTup K 3 (gCons g1 (gCons g2 (gCons g3 gNil)))) (.tuple [d1, d2, d3]) (fun ρ => b3 (b2 (b1 ρ))) := fun M0 H0 F M s ρ σ H v Q R a q => by
  cases a with
  | tup hs a =>
    cases a with
    | cons a1 a =>
      cases a with
      | cons a2 a =>
        cases a with
        | cons a3 a =>
          cases a
          refine ⟨_, _, rfl, same_t hid_same hs, rfl, _, _, rfl, h1 M0 H0 F M s ρ σ H _ _ R a1 fun σ1 R1 => ⟨_, _, rfl, h2 M0 H0 F M s _ σ1 H _ _ R1 a2 fun σ2 R2 => ⟨_, _, rfl, h3 M0 H0 F M s _ σ2 H _ _ R2 a3 fun σ3 R3 => ⟨rfl, q σ3 R3⟩⟩⟩⟩
/-- for .. in a tuple -/
theorem w_forT {g : TG} {ds : List PyData} (b : PyData → En → En) (hb : ∀ d ∈ ds, Gb K g d (b d)) (h : Ev K tl ρ s (.d (.tuple ds)) s1) (I : Nat → En → Sto → Prop) (h0 : I 0 ρ s1)
    (hs : ∀ v (i : Nat) d ρ' s' (N : L2.St → Hp → Prop), ds[i]? = some d → I i ρ' s' → (∀ ρ2 s2, I (i + 1) ρ2 s2 → W K M0 H0 ((v, .tuple ds) :: F) N ρ2 s2) → W K M0 H0 ((v, .tuple ds) :: F) (tb { D with nx := N, ct := N, bk := D.nx }) (b d ρ') s')
    (hd : ∀ ρ' s', I ds.length ρ' s' → W K M0 H0 F D.nx ρ' s') : W K M0 H0 F (tFor (iTup K tl) g tb D) ρ s := fun M σ H R => by
  refine h M σ H R.so R.re _ fun v H1 e S r => ?_
  replace R := (R.step e S).more r
  clear r S e
  generalize H1 = H at R ⊢
  have hv := R.kp _ (List.mem_cons_self ..)
  have hv0 : At K (hid M H) v (.tuple ds) := hv
  cases hv0 with
  | @tup a xs _ ha hxs =>
    refine ⟨a, rfl, ⟨xs, same_t hid_same ha⟩, fun i m σ H => m = ds.length - i ∧ i ≤ ds.length ∧ ∃ M s ρ, Rl K M0 H0 ((.ref a, .tuple ds) :: F) M s ρ σ H ∧ I i ρ s, ⟨_, rfl, Nat.zero_le _, M, _, _, R, h0⟩, ?_⟩
    rintro i m σ H ⟨rfl, hi, M, s, ρ, R, hI⟩
    have hv := R.kp _ (List.mem_cons_self ..)
    have hv0 : At K (hid M H) (.ref a) (.tuple ds) := hv
    cases hv0 with
    | @tup _ xs _ ha hxs =>
      have hS : SqT K H a xs := same_t hid_same ha
      by_cases c : i < ds.length
      · obtain ⟨w, hw, rw_⟩ := hxs.get (List.getElem?_eq_getElem c)
        refine .inr ⟨⟨xs, w, hS, hw⟩, fun σ H => ∃ M s ρ, Rl K M0 H0 ((.ref a, .tuple ds) :: F) M s ρ σ H ∧ I (i + 1) ρ s, fun σ' H' ⟨M, s, ρ, R, hI⟩ => ⟨ds.length - (i + 1), by omega, rfl, by omega, M, s, ρ, R, hI⟩, fun x H' ⟨e, hx⟩ => ?_⟩
        subst e
        have ex : x = w := Option.some.inj ((hx xs hS).symm.trans hw)
        subst ex
        refine hb _ (List.getElem_mem c) _ _ _ M s ρ σ _ _ _ R rw_ fun σ' R' => ?_
        exact hs (.ref a) i _ ρ s _ (List.getElem?_eq_getElem c) hI (fun ρ2 s2 h2 M σ H R => ⟨M, s2, ρ2, R, h2⟩) M _ _ R'
      · have e : i = ds.length := by omega
        subst e
        exact .inl ⟨⟨xs, hS, by rw [hxs.len]; exact Nat.le_refl _⟩, hd ρ s hI M σ H R.less⟩
end
end Pw
namespace Km
open PySem L2 Pw
/-! ### sizes -/
structure Sm (n : Nat) (i : Int) : Prop where
  lt : i.natAbs < 2 ^ n
theorem Sm.mono {n m : Nat} {i : Int} (h : Sm n i) (e : n ≤ m := by decide) : Sm m i := ⟨Nat.lt_of_lt_of_le h.lt (Nat.pow_le_pow_right (by decide) e)⟩
theorem Sm.mul {n m : Nat} {i j : Int} (h : Sm n i) (h' : Sm m j) : Sm (n + m) (i * j) := ⟨wide_lt h.lt h'.lt⟩
theorem Sm.add {n : Nat} {i j : Int} (h : Sm n i) (h' : Sm n j) : Sm (n + 1) (i + j) := ⟨by
  have h1 := h.lt
  have h2 := h'.lt
  have := Int.natAbs_add_le i j
  rw [Nat.pow_succ]
  omega⟩
theorem Sm.neg {n : Nat} {i : Int} (h : Sm n i) : Sm n (-i) := ⟨by
  rw [Int.natAbs_neg]
  exact h.lt⟩
theorem Sm.sub {n : Nat} {i j : Int} (h : Sm n i) (h' : Sm n j) : Sm (n + 1) (i - j) := by
  rw [Int.sub_eq_add_neg]
  exact h.add h'.neg
theorem Sm.le {n : Nat} {i j : Int} (h : Sm n j) (e : i.natAbs ≤ j.natAbs) : Sm n i := ⟨Nat.lt_of_le_of_lt e h.lt⟩
theorem Sm.of {n : Nat} {i : Int} (b : Nat) (h : i.natAbs ≤ b) (e : b < 2 ^ n := by decide) : Sm n i := ⟨Nat.lt_of_le_of_lt h e⟩
theorem cm_sm {n m : Nat} {i j : Int} (h : Sm n i) (h' : Sm m j) (hn : n ≤ 60000000 := by decide) (hm : m ≤ 60000000 := by decide) : CM i j := cm_big h.lt h'.lt hn hm
theorem cf_sm {n : Nat} {i j : Int} (h0 : j ≠ 0) (h : Sm n j) (hn : n ≤ 8999 := by decide) : CF i j := ⟨h0, by
  have := PySem.Flt.log2_lt_of (n := j.natAbs) (k := n + 1) (by omega) (Nat.lt_of_lt_of_le h.lt (Nat.pow_le_pow_right (by decide) (by omega)))
  omega⟩

/-! ### fractions -/
def sg (v : Int) : Int := if 0 < v then 1 else -1
/-- the two parts of u over v, lowered -/
def lwN (u v : Int) : Int := (sg v * u).fdiv ((Nat.gcd u.natAbs v.natAbs : Nat) : Int)
def lwD (u v : Int) : Int := ((v.natAbs : Nat) : Int).fdiv ((Nat.gcd u.natAbs v.natAbs : Nat) : Int)
theorem gcd_pos {u v : Int} (h : v ≠ 0) : 0 < ((Nat.gcd u.natAbs v.natAbs : Nat) : Int) := by
  have : 0 < Nat.gcd u.natAbs v.natAbs := Nat.gcd_pos_of_pos_right _ (by omega)
  omega
theorem fdiv_le {u g : Int} (h : 0 < g) : (u.fdiv g).natAbs ≤ u.natAbs := by
  rw [Int.fdiv_eq_ediv_of_nonneg u (by omega)]
  have h1 := Int.emod_nonneg u (show g ≠ 0 by omega)
  have h2 := Int.emod_lt_of_pos u h
  have h3 := Int.mul_ediv_add_emod u g
  by_cases c : 0 ≤ u
  · have h4 : 0 ≤ u / g := Int.ediv_nonneg c (by omega)
    have h5 : u / g ≤ u := Int.ediv_le_self _ c
    omega
  · have h4 : u / g < 0 := Int.ediv_neg_of_neg_of_pos (by omega) h
    have h6 : (g - 1) * 1 ≤ (g - 1) * (-(u / g)) := Int.mul_le_mul_of_nonneg_left (by omega) (by omega)
    have h7 : (g - 1) * (-(u / g)) = -(g * (u / g)) + u / g := by
      rw [Int.sub_mul, Int.one_mul, Int.mul_neg]
      omega
    omega
theorem sg_abs (v : Int) : (sg v).natAbs = 1 := by unfold sg; split <;> rfl
theorem lwN_le {u v : Int} (h : v ≠ 0) : (lwN u v).natAbs ≤ u.natAbs := by
  unfold lwN
  refine Nat.le_trans (fdiv_le (gcd_pos h)) ?_
  rw [Int.natAbs_mul, sg_abs]
  omega
theorem lwD_le {u v : Int} (h : v ≠ 0) : (lwD u v).natAbs ≤ v.natAbs := by
  unfold lwD
  refine Nat.le_trans (fdiv_le (gcd_pos h)) ?_
  omega
theorem lwD_pos {u v : Int} (h : v ≠ 0) : 0 < lwD u v := by
  unfold lwD
  have g := gcd_pos (u := u) h
  rw [Int.fdiv_eq_ediv_of_nonneg _ (by omega)]
  have d : Nat.gcd u.natAbs v.natAbs ∣ v.natAbs := Nat.gcd_dvd_right _ _
  obtain ⟨k, hk⟩ := d
  have hv : 0 < v.natAbs := by omega
  have k0 : 0 < k := by
    rcases Nat.eq_zero_or_pos k with z | z
    · subst z; omega
    · exact z
  generalize Nat.gcd u.natAbs v.natAbs = gg at *
  rw [hk]
  have e : ((gg * k : Nat) : Int) / (gg : Int) = (k : Int) := by
    rw [Int.natCast_mul, Int.mul_ediv_cancel_left _ (by omega)]
  rw [e]
  omega
/-- the program's way: by the shared part with the bottom's sign -/
theorem frac_N {u v : Int} (h : v ≠ 0) : u.fdiv (if v < 0 then -((Nat.gcd u.natAbs v.natAbs : Nat) : Int) else ((Nat.gcd u.natAbs v.natAbs : Nat) : Int)) = lwN u v := by
  have g := gcd_pos (u := u) h
  unfold lwN sg
  have d : (Nat.gcd u.natAbs v.natAbs : Int) ∣ u := by
    have := Nat.gcd_dvd_left u.natAbs v.natAbs
    exact Int.ofNat_dvd_left.mpr this
  obtain ⟨k, hk⟩ := d
  generalize ((Nat.gcd u.natAbs v.natAbs : Nat) : Int) = gg at *
  by_cases c : v < 0
  · rw [if_pos c, if_neg (by omega), hk]
    have e : gg * k = (-gg) * (-k) := by rw [Int.neg_mul_neg]
    have e2 : -1 * (gg * k) = gg * (-k) := by rw [Int.mul_neg, Int.neg_mul, Int.one_mul]
    rw [e2]
    conv => lhs; rw [e]
    rw [Int.mul_fdiv_cancel_left _ (by omega), Int.mul_fdiv_cancel_left _ (by omega)]
  · rw [if_neg c, if_pos (by omega), Int.one_mul]
theorem frac_D {u v : Int} (h : v ≠ 0) : v.fdiv (if v < 0 then -((Nat.gcd u.natAbs v.natAbs : Nat) : Int) else ((Nat.gcd u.natAbs v.natAbs : Nat) : Int)) = lwD u v := by
  have g := gcd_pos (u := u) h
  unfold lwD
  have d : (Nat.gcd u.natAbs v.natAbs : Int) ∣ v := by
    have := Nat.gcd_dvd_right u.natAbs v.natAbs
    exact Int.ofNat_dvd_left.mpr this
  obtain ⟨k, hk⟩ := d
  by_cases c : v < 0
  · rw [if_pos c]
    have e0 : ((v.natAbs : Nat) : Int) = -v := by omega
    rw [e0]
    generalize ((Nat.gcd u.natAbs v.natAbs : Nat) : Int) = gg at *
    subst hk
    have e : gg * k = (-gg) * (-k) := by rw [Int.neg_mul_neg]
    have e2 : -(gg * k) = gg * (-k) := by rw [Int.mul_neg]
    rw [e2]
    conv => lhs; rw [e]
    rw [Int.mul_fdiv_cancel_left _ (by omega), Int.mul_fdiv_cancel_left _ (by omega)]
  · rw [if_neg c]
    have e0 : ((v.natAbs : Nat) : Int) = v := by omega
    rw [e0]
/-- already lowered: it is itself -/
theorem lw_self {u v : Int} (h : 0 < v) : (lwN u v = u ∧ lwD u v = v) ↔ Nat.gcd u.natAbs v.natAbs = 1 := by
  have g := gcd_pos (u := u) (v := v) (by omega)
  constructor
  · rintro ⟨_, h2⟩
    unfold lwD at h2
    have e0 : ((v.natAbs : Nat) : Int) = v := by omega
    rw [e0, Int.fdiv_eq_ediv_of_nonneg _ (by omega)] at h2
    have d : (Nat.gcd u.natAbs v.natAbs : Int) ∣ v := Int.ofNat_dvd_left.mpr (Nat.gcd_dvd_right u.natAbs v.natAbs)
    have e := Int.ediv_mul_cancel d
    rw [h2] at e
    have : ((Nat.gcd u.natAbs v.natAbs : Nat) : Int) = 1 := by
      have e3 : v * ((Nat.gcd u.natAbs v.natAbs : Nat) : Int) = v * 1 := by rw [e, Int.mul_one]
      exact Int.eq_of_mul_eq_mul_left (by omega) e3
    omega
  · intro e
    unfold lwN lwD sg
    rw [e, if_pos h, Int.one_mul]
    have e0 : ((v.natAbs : Nat) : Int) = v := by omega
    rw [e0]
    exact ⟨by simp, by simp⟩

/-! ### the law's draws -/
structure Bx where
  x : Int
  y : Int
  z : Int
abbrev bxl (b : Bx) : List PyData := [.int b.x, .int b.y, .int b.z]
def once (b : Bx) : Int := ((b.y + 48271 * (b.z + 1)) * (39373 + (b.z + 1))).fmod 2147483647
def twice (b : Bx) : Int := ((once b + (b.z + 1) + b.y.fdiv 1000003) * ((once b).fmod 40009 + 7)).fmod 2147483629
def tkR (b : Bx) (n : Int) : Int := if 0 < b.x then b.x.fmod n else (((twice b * 48271 + once b).fmod 2147483587).fdiv 64).fmod n
def tkB (b : Bx) (n : Int) : Bx := if 0 < b.x then ⟨b.x.fdiv n, b.y, b.z⟩ else ⟨b.x, b.y, b.z + 1⟩
theorem fmod_r {a n : Int} (h : 0 < n) : 0 ≤ a.fmod n ∧ a.fmod n < n := by
  rw [Int.fmod_eq_emod_of_nonneg a (by omega)]
  exact ⟨Int.emod_nonneg _ (by omega), Int.emod_lt_of_pos _ h⟩
theorem tk_r {b : Bx} {n : Int} (h : 0 < n) : 0 ≤ tkR b n ∧ tkR b n < n := by
  unfold tkR
  split <;> exact fmod_r h
/-- the box has been asked so many times at most -/
def Bk (c : Nat) (b : Bx) : Prop := 0 ≤ b.z ∧ b.z ≤ (c : Int)
theorem Bk.next {c : Nat} {b : Bx} {n : Int} (h : Bk c b) : Bk (c + 1) (tkB b n) := by
  unfold Bk tkB at *
  split
  · exact ⟨h.1, by have := h.2; show b.z ≤ ((c + 1 : Nat) : Int); omega⟩
  · exact ⟨by have := h.1; show 0 ≤ b.z + 1; omega, by have := h.2; show b.z + 1 ≤ ((c + 1 : Nat) : Int); omega⟩
theorem Bk.mono {c d : Nat} {b : Bx} (h : Bk c b) (e : c ≤ d) : Bk d b := ⟨h.1, by have := h.2; omega⟩
end Km
namespace Km
open PySem L2 Pw
theorem gs {s : Sto} {l : Nat} {X Y : List PyData} (h : s[l]? = some Y) : (s.set l X)[l]? = some X := List.getElem?_set_self (List.getElem?_eq_some_iff.mp h).1
theorem cm_r {i j : Int} (h1 : -(2 ^ 64) < j) (h2 : j < 2 ^ 64) : CM i j := cm_mk (.inr ⟨h1, h2⟩)
theorem cm_l {i j : Int} (h1 : -(2 ^ 64) < i) (h2 : i < 2 ^ 64) : CM i j := cm_mk (.inl ⟨h1, h2⟩)
theorem cm_fm7 {i a : Int} : CM i (a.fmod 40009 + 7) := by
  have := fmod_r (a := a) (n := 40009) (by decide)
  exact cm_r (by omega) (by omega)
theorem cm_if {i : Int} {b : Bool} : CM i (if b then 1 else 0) := by
  cases b
  · exact cm_r (by decide) (by decide)
  · exact cm_r (by decide) (by decide)
theorem cf_c {i j : Int} (h : j ≠ 0) (h2 : j.natAbs < 2 ^ 30) : CF i j := cf_sm h (n := 30) ⟨h2⟩
theorem cast_fmod {p q : Nat} (h : 0 < q) : (p : Int).fmod (q : Int) = ((p % q : Nat) : Int) := by
  rw [Int.fmod_eq_emod_of_nonneg _ (by omega), Int.natCast_emod]
theorem abs_if (v : Int) : (if v < 0 then -v else v) = ((v.natAbs : Nat) : Int) := by
  split <;> omega
/-! ### data equal to themselves -/
mutual
theorem eqv_self : ∀ d : PyData, d.canLay0 = true → PyData.eqv d d = true
  | .none, _ => rfl
  | .bool b, _ => by simp [PyData.eqv]
  | .int i, _ => by simp [PyData.eqv]
  | .str x, _ => by simp [PyData.eqv]
  | .list xs, h => by
    simp only [PyData.eqv]
    exact eqvAll_self xs (by simpa [PyData.canLay0] using h)
  | .tuple xs, h => by
    simp only [PyData.eqv]
    exact eqvAll_self xs (by simpa [PyData.canLay0] using h)
  | .dict _, h => by simp [PyData.canLay0] at h
theorem eqvAll_self : ∀ ds : List PyData, PyData.canLayAll0 ds = true → PyData.eqvAll ds ds = true
  | [], _ => rfl
  | d :: ds, h => by
    have h' : d.canLay0 = true ∧ PyData.canLayAll0 ds = true := by simpa [PyData.canLayAll0] using h
    simp only [PyData.eqvAll, eqv_self d h'.1, eqvAll_self ds h'.2, Bool.and_self]
end
theorem lay_mem : ∀ {ds : List PyData} {i : Nat} {d : PyData}, PyData.canLayAll0 ds = true → ds[i]? = some d → d.canLay0 = true
  | e :: ds, 0, d, h, g => by
    cases g
    have h' : e.canLay0 = true ∧ PyData.canLayAll0 ds = true := by simpa [PyData.canLayAll0] using h
    exact h'.1
  | e :: ds, i + 1, d, h, g => by
    have h' : e.canLay0 = true ∧ PyData.canLayAll0 ds = true := by simpa [PyData.canLayAll0] using h
    exact lay_mem (ds := ds) (i := i) h'.2 g
theorem dep_mem : ∀ {ds : List PyData} {i : Nat} {d : PyData}, ds[i]? = some d → d.depth ≤ PyData.depthAll ds
  | e :: ds, 0, d, g => by
    cases g
    simp only [PyData.depthAll]
    exact Nat.le_max_left _ _
  | e :: ds, i + 1, d, g => by
    simp only [PyData.depthAll]
    exact Nat.le_trans (dep_mem (ds := ds) (i := i) g) (Nat.le_max_right _ _)
mutual
def nod : PyData → Nat
  | .list xs => nodAll xs
  | .tuple xs => nodAll xs
  | _ => 0
def nodAll : List PyData → Nat
  | [] => 0
  | x :: xs => nod x + 1 + nodAll xs
end
theorem nod_len : ∀ ds : List PyData, ds.length ≤ nodAll ds
  | [] => Nat.le_refl _
  | d :: ds => by
    have := nod_len ds
    simp only [List.length_cons, nodAll]
    omega
theorem nod_mem : ∀ {ds : List PyData} {i : Nat} {d : PyData}, ds[i]? = some d → nod d ≤ nodAll ds
  | e :: ds, 0, d, g => by
    cases g
    simp only [nodAll]
    omega
  | e :: ds, i + 1, d, g => by
    have := nod_mem (ds := ds) (i := i) g
    simp only [nodAll]
    omega
theorem shaped_of {d : PyData} (h : d.canLay0 = true) (h2 : d.depth ≤ 64) : SeqAt.shaped d = true := by
  unfold SeqAt.shaped
  rw [h, decide_eq_true h2, Bool.and_self]
theorem all_true {α : Type} (ds : List α) : (ds.map fun _ => true).all id = true := by
  induction ds with
  | nil => rfl
  | cons d ds ih => simpa using ih
/-! ### the law's box -/
def cell (ns : List Int) (k : Int) : Int := if k < (ns.length : Int) then (ns[k.toNat]?).getD 0 else 0
def mkB (c k : Int) : Bx := ⟨(if c < 0 then -c else c) * (if decide ((10 : Int) ^ (18 : Int).toNat ≤ (if c < 0 then -c else c)) = true then 1 else 0), c.fmod 2305843009213693951 + 39373 * k + 17, 0⟩
theorem atI_cell {ns : List Int} {k : Int} (h0 : 0 ≤ k) (h : k < (ns.length : Int)) : atI ns k = some (cell ns k) := by
  unfold cell
  rw [if_pos h]
  have e : k = ((k.toNat : Nat) : Int) := (Int.toNat_of_nonneg h0).symm
  have hl : k.toNat < ns.length := by omega
  have h3 : ns[k.toNat]? = some ns[k.toNat] := List.getElem?_eq_getElem hl
  rw [h3]
  show atI ns k = some ns[k.toNat]
  conv => lhs; rw [e]
  exact atI_nat h3
theorem bk_mk {c k : Int} : Bk 0 (mkB c k) := ⟨Int.le_refl _, Int.le_refl _⟩
/-! ### draws -/
def drN (b : Bx) (n : Int) : Int := tkR b (2 * n + 1) - n
def drD (b : Bx) (n : Int) : Int := (([1, 1, 1, 2, 3, 4] : List Int)[(tkR (tkB b (2 * n + 1)) 6).toNat]?).getD 1
def drB (b : Bx) (n : Int) : Bx := tkB (tkB b (2 * n + 1)) 6
theorem drN_le {b : Bx} {n : Int} (h : 0 ≤ n) : -n ≤ drN b n ∧ drN b n ≤ n := by
  have := tk_r (b := b) (n := 2 * n + 1) (by omega)
  unfold drN
  omega
theorem six_get : ∀ i : Nat, i < 6 → ∃ v : Int, ([1, 1, 1, 2, 3, 4] : List Int)[i]? = some v ∧ 1 ≤ v ∧ v ≤ 4
  | 0, _ => ⟨1, rfl, by decide, by decide⟩
  | 1, _ => ⟨1, rfl, by decide, by decide⟩
  | 2, _ => ⟨1, rfl, by decide, by decide⟩
  | 3, _ => ⟨2, rfl, by decide, by decide⟩
  | 4, _ => ⟨3, rfl, by decide, by decide⟩
  | 5, _ => ⟨4, rfl, by decide, by decide⟩
  | i + 6, h => absurd h (by omega)
theorem drD_le {b : Bx} {n : Int} : 1 ≤ drD b n ∧ drD b n ≤ 4 := by
  have := tk_r (b := tkB b (2 * n + 1)) (n := 6) (by decide)
  obtain ⟨v, h, h1, h2⟩ := six_get (tkR (tkB b (2 * n + 1)) 6).toNat (by omega)
  unfold drD
  rw [h]
  exact ⟨h1, h2⟩
theorem drD_at {b : Bx} {n : Int} : ([.int 1, .int 1, .int 1, .int 2, .int 3, .int 4] : List PyData)[(tkR (tkB b (2 * n + 1)) 6).toNat]? = some (.int (drD b n)) := by
  have := tk_r (b := tkB b (2 * n + 1)) (n := 6) (by decide)
  obtain ⟨v, h, h1, h2⟩ := six_get (tkR (tkB b (2 * n + 1)) 6).toNat (by omega)
  have e : ([.int 1, .int 1, .int 1, .int 2, .int 3, .int 4] : List PyData) = ([1, 1, 1, 2, 3, 4] : List Int).map PyData.int := rfl
  unfold drD
  rw [e, List.getElem?_map, h]
  rfl
theorem Bk.draw {c : Nat} {b : Bx} {n : Int} (h : Bk c b) : Bk (c + 2) (drB b n) := (h.next (n := 2 * n + 1)).next
end Km
namespace Km
open PySem L2 Pw
theorem log_sm {n : Nat} {i : Int} (h : Sm n i) (hn : 0 < n) : i.natAbs.log2 < n := PySem.Flt.log2_lt_of hn h.lt
theorem shown_int {i : Int} (h : Sm 1000 i) : (PyData.shown (.int i)).length ≤ 1001 := by
  have e := int_text_length_le (k := 1000) (by decide) (log_sm h (by decide))
  show (Str.ofString (toString i)).length ≤ 1001
  rw [ofString_length]
  omega
/-- a thing within a thing -/
structure Lf (x : PyData) : Prop where
  sh : PyData.showable x = true
  nd : PyData.hasDict x = false
  dp : x.depth ≤ 1
  ls : x.leavesShort 1002 = true
  wt : x.weight ≤ 1000
  ly : x.canLay0 = true
  sm : ∀ a, x = .int a → Sm 1000 a
theorem lf_int {i : Int} (h : Sm 1000 i) : Lf (.int i) := by
  have hl := log_sm h (by decide)
  refine ⟨decide_eq_true (by omega), rfl, Nat.le_of_ble_eq_true rfl, ?_, ?_, rfl, fun a e => by cases e; exact h⟩
  · show decide ((PyData.shown (.int i)).length ≤ 1002) = true
    exact decide_eq_true (Nat.le_trans (shown_int h) (by decide))
  · show (if i == 0 then 0 else i.natAbs.log2 + 1) ≤ 1000
    split <;> omega
theorem lf_bool {b : Bool} : Lf (.bool b) := ⟨rfl, rfl, Nat.le_of_ble_eq_true rfl, rfl, Nat.le_of_ble_eq_true rfl, rfl, fun a e => by cases e⟩
theorem lf_none : Lf .none := ⟨rfl, rfl, Nat.le_of_ble_eq_true rfl, rfl, Nat.le_of_ble_eq_true rfl, rfl, fun a e => by cases e⟩
theorem lf_s1 : Lf (.str "1") := ⟨rfl, rfl, Nat.le_of_ble_eq_true rfl, by decide +kernel, by decide +kernel, by decide +kernel, fun a e => by cases e⟩
theorem lf_t1 : Lf (.tuple [.int 1]) := ⟨by decide +kernel, by decide +kernel, by decide +kernel, by decide +kernel, by decide +kernel, by decide +kernel, fun a e => by cases e⟩
theorem lf_l1 : Lf (.list [.int 1]) := ⟨by decide +kernel, by decide +kernel, by decide +kernel, by decide +kernel, by decide +kernel, by decide +kernel, fun a e => by cases e⟩
/-- a thing -/
structure Th (d : PyData) : Prop where
  sh : PyData.showable d = true
  nd : PyData.hasDict d = false
  dp : d.depth ≤ 60
  ln : d.shown.length ≤ 16000000
  sm : ∀ a b, d = .tuple [.int a, .int b] → Sm 4000 a ∧ Sm 4000 b
theorem th_mk {d : PyData} (sh : PyData.showable d = true) (nd : PyData.hasDict d = false) (dp : d.depth ≤ 60) (ls : d.leavesShort 1002 = true) (wt : d.weight ≤ 10000) (sm : ∀ a b, d = .tuple [.int a, .int b] → Sm 4000 a ∧ Sm 4000 b) : Th d :=
  ⟨sh, nd, dp, by
    have h := PyData.shown_le 1002 (by decide) d ls
    have h2 : (1002 + 2) * d.weight ≤ 1004 * 10000 := Nat.mul_le_mul (by decide) wt
    omega, sm⟩
theorem th_lf {x : PyData} (h : Lf x) (hn : ∀ ds, x ≠ .tuple ds) : Th x := th_mk h.sh h.nd (Nat.le_trans h.dp (by decide)) h.ls (Nat.le_trans h.wt (by decide)) fun a b e => absurd e (hn _)
theorem th_all {ds : List PyData} (h : ∀ x ∈ ds, Lf x) (hl : ds.length ≤ 5) : PyData.showableAll ds = true ∧ PyData.hasDictAll ds = false ∧ PyData.depthAll ds ≤ 1 ∧ PyData.leavesShortAll 1002 ds = true ∧ PyData.weightAll ds ≤ 1001 * ds.length := by
  induction ds with
  | nil => exact ⟨rfl, rfl, Nat.le_of_ble_eq_true rfl, rfl, Nat.le_of_ble_eq_true rfl⟩
  | cons x ds ih =>
    obtain ⟨h1, h2, h3, h4, h5⟩ := ih (fun y hy => h y (List.mem_cons_of_mem _ hy)) (by simp at hl; omega)
    have hx := h x (List.mem_cons_self ..)
    refine ⟨?_, ?_, ?_, ?_, ?_⟩
    · simp only [PyData.showableAll, hx.sh, h1, Bool.and_self]
    · simp only [PyData.hasDictAll, hx.nd, h2, Bool.or_self]
    · simp only [PyData.depthAll]
      exact Nat.max_le.mpr ⟨hx.dp, h3⟩
    · simp only [PyData.leavesShortAll, hx.ls, h4, Bool.and_self]
    · have := hx.wt
      simp only [PyData.weightAll, List.length_cons]
      omega
theorem th_tup {ds : List PyData} (h : ∀ x ∈ ds, Lf x) (hl : ds.length ≤ 5) : Th (.tuple ds) := by
  obtain ⟨h1, h2, h3, h4, h5⟩ := th_all h hl
  refine th_mk (by simp only [PyData.showable, h1]) (by simp only [PyData.hasDict, h2]) (by simp only [PyData.depth]; omega) (by simp only [PyData.leavesShort, h4]) (by simp only [PyData.weight]; omega) fun a b e => ?_
  cases e
  exact ⟨((h (.int a) (by simp)).sm a rfl).mono, ((h (.int b) (by simp)).sm b rfl).mono⟩
theorem th_lst {ds : List PyData} (h : ∀ x ∈ ds, Lf x) (hl : ds.length ≤ 5) : Th (.list ds) := by
  obtain ⟨h1, h2, h3, h4, h5⟩ := th_all h hl
  exact th_mk (by simp only [PyData.showable, h1]) (by simp only [PyData.hasDict, h2]) (by simp only [PyData.depth]; omega) (by simp only [PyData.leavesShort, h4]) (by simp only [PyData.weight]; omega) fun a b e => by cases e
theorem th_s : Th (.str "1/2") := th_mk rfl rfl (Nat.le_of_ble_eq_true rfl) (by decide +kernel) (by decide +kernel) fun a b e => by cases e
end Km
namespace Km
open PySem L2 Pw
theorem lw_one {u : Int} : lwN u 1 = u ∧ lwD u 1 = 1 := (lw_self (u := u) (v := 1) (by decide)).mpr (by
  show Nat.gcd u.natAbs 1 = 1
  exact Nat.gcd_one_right _)
/-- what comes of a draw from a list of so many -/
theorem pick {ds : List PyData} {b : Bx} (h : 0 < ds.length) : ∃ d, ds[(tkR b (ds.length : Nat)).toNat]? = some d ∧ d ∈ ds := by
  have hr := tk_r (b := b) (n := (ds.length : Nat)) (by omega)
  have hl : (tkR b (ds.length : Nat)).toNat < ds.length := by omega
  exact ⟨_, List.getElem?_eq_getElem hl, List.getElem_mem hl⟩
end Km
namespace Km
/-- m is s's square times u, which no square divides -/
structure Prt (m s u : Nat) : Prop where
  eq : s * s * u = m
  s1 : 1 ≤ s
  u1 : 1 ≤ u
  free : ∀ t, 2 ≤ t → ¬ (t * t ∣ u)
theorem Prt.side {m s u t : Nat} (h : Prt m s u) (ht : 1 ≤ t) (hd : t * t ∣ m) : t ∣ s := by
  obtain ⟨g, t', s', hg, hc, rfl, rfl⟩ : ∃ g t' s', 0 < g ∧ Nat.Coprime t' s' ∧ t = t' * g ∧ s = s' * g := by
    have hg : 0 < Nat.gcd t s := Nat.gcd_pos_of_pos_left _ ht
    exact ⟨Nat.gcd t s, t / Nat.gcd t s, s / Nat.gcd t s, hg, Nat.coprime_div_gcd_div_gcd hg, (Nat.div_mul_cancel (Nat.gcd_dvd_left t s)).symm, (Nat.div_mul_cancel (Nat.gcd_dvd_right t s)).symm⟩
  rw [← h.eq] at hd
  have e1 : t' * g * (t' * g) = (g * g) * (t' * t') := by simp only [Nat.mul_assoc, Nat.mul_comm, Nat.mul_left_comm]
  have e2 : s' * g * (s' * g) * u = (g * g) * (s' * s' * u) := by simp only [Nat.mul_assoc, Nat.mul_comm, Nat.mul_left_comm]
  rw [e1, e2] at hd
  have hd2 : t' * t' ∣ s' * s' * u := Nat.dvd_of_mul_dvd_mul_left (Nat.mul_pos hg hg) hd
  have c2 : Nat.Coprime (t' * t') (s' * s') := Nat.Coprime.mul_left (Nat.Coprime.mul_right hc hc) (Nat.Coprime.mul_right hc hc)
  have hd3 : t' * t' ∣ u := c2.dvd_of_dvd_mul_left hd2
  have t1 : t' = 1 := by
    rcases Nat.lt_or_ge t' 2 with c | c
    · have : t' ≠ 0 := fun z => by subst z; simp at ht
      omega
    · exact absurd hd3 (h.free t' c)
  subst t1
  rw [Nat.one_mul]
  exact ⟨s', Nat.mul_comm _ _⟩
theorem Prt.uniq {m s u s' u' : Nat} (h : Prt m s u) (h' : Prt m s' u') : s = s' ∧ u = u' := by
  have a : s' ∣ s := h.side h'.s1 ⟨u', h'.eq.symm⟩
  have b : s ∣ s' := h'.side h.s1 ⟨u, h.eq.symm⟩
  have e := Nat.dvd_antisymm b a
  subst e
  refine ⟨rfl, Nat.eq_of_mul_eq_mul_left (Nat.mul_pos h.s1 h.s1) (h.eq.trans h'.eq.symm)⟩
theorem Prt.ex : ∀ (n m : Nat), m ≤ n → 1 ≤ m → ∃ s u, Prt m s u
  | 0, m, h, h1 => by omega
  | n + 1, m, h, h1 => by
    by_cases c : ∃ t, 2 ≤ t ∧ t * t ∣ m
    · obtain ⟨t, ht, k, hk⟩ := c
      have tt : 4 ≤ t * t := Nat.mul_le_mul ht ht
      have k1 : 1 ≤ k := by
        rcases Nat.eq_zero_or_pos k with z | z
        · subst z; simp at hk; omega
        · exact z
      have kl : k ≤ n := by
        have : 4 * k ≤ t * t * k := Nat.mul_le_mul_right k tt
        omega
      obtain ⟨s, u, p⟩ := Prt.ex n k kl k1
      refine ⟨t * s, u, ?_, Nat.mul_pos (by omega) p.s1, p.u1, p.free⟩
      rw [hk, ← p.eq]
      simp only [Nat.mul_assoc, Nat.mul_comm, Nat.mul_left_comm]
    · exact ⟨1, m, by simp, Nat.le_refl _, h1, fun t ht hd => c ⟨t, ht, hd⟩⟩
theorem Prt.le {m s u : Nat} (h : Prt m s u) : s * s ≤ m := by
  rw [← h.eq]
  exact Nat.le_mul_of_pos_right _ h.u1
/-- from the greatest side down, the first that divides -/
theorem Prt.of_down {m s : Nat} (h1 : 1 ≤ m) (hm : m ≤ 1000000) (hs : 1 ≤ s) (hd : s * s ∣ m) (hn : ∀ t, s < t → t ≤ 1000 → ¬ (t * t ∣ m)) : Prt m s (m / (s * s)) := by
  obtain ⟨s', u', p⟩ := Prt.ex m m (Nat.le_refl _) h1
  have a : s ∣ s' := p.side hs hd
  have b := Nat.le_of_dvd p.s1 a
  have c : s' ≤ 1000 := by
    rcases Nat.lt_or_ge 1000 s' with q | q
    · have := p.le
      have := Nat.mul_le_mul (show 1001 ≤ s' from q) (show 1001 ≤ s' from q)
      omega
    · exact q
  have e : s = s' := by
    rcases Nat.lt_or_ge s s' with q | q
    · exact absurd ⟨u', p.eq.symm⟩ (hn s' q c)
    · omega
  subst e
  have : m / (s * s) = u' := by
    rw [← p.eq, Nat.mul_div_cancel_left _ (Nat.mul_pos hs hs)]
  rw [this]
  exact p
end Km
/-! signs of a, b times the root of u, c times the root of v, summed up; and how far from 0 such a sum must lie: whole numbers alone -/
namespace Km
def sgn (i : Int) : Int := if 0 < i then 1 else if i < 0 then -1 else 0
theorem sgn_p {i : Int} (h : 0 < i) : sgn i = 1 := if_pos h
theorem sgn_n {i : Int} (h : i < 0) : sgn i = -1 := by unfold sgn; rw [if_neg (by omega), if_pos h]
theorem sgn_0 : sgn 0 = 0 := rfl
theorem sgn_c (i : Int) : (0 < i ∧ sgn i = 1) ∨ (i < 0 ∧ sgn i = -1) ∨ (i = 0 ∧ sgn i = 0) := by
  rcases Int.lt_trichotomy i 0 with h | h | h
  · exact .inr (.inl ⟨h, sgn_n h⟩)
  · exact .inr (.inr ⟨h, by rw [h]; rfl⟩)
  · exact .inl ⟨h, sgn_p h⟩
theorem sgn_z {i : Int} : sgn i = 0 ↔ i = 0 := by rcases sgn_c i with ⟨h, e⟩ | ⟨h, e⟩ | ⟨h, e⟩ <;> omega
theorem sgn_neg (i : Int) : sgn (-i) = -sgn i := by
  rcases sgn_c i with ⟨h, e⟩ | ⟨h, e⟩ | ⟨h, e⟩ <;> rcases sgn_c (-i) with ⟨h', e'⟩ | ⟨h', e'⟩ | ⟨h', e'⟩ <;> omega
theorem sgn_mulp {i k : Int} (hk : 0 < k) : sgn (i * k) = sgn i := by
  rcases sgn_c i with ⟨h, e⟩ | ⟨h, e⟩ | ⟨h, e⟩
  · rw [e, sgn_p (Int.mul_pos h hk)]
  · rw [e, sgn_n (Int.mul_neg_of_neg_of_pos h hk)]
  · rw [h, Int.zero_mul]
theorem sgn_mul (i j : Int) : sgn (i * j) = sgn i * sgn j := by
  rcases sgn_c j with ⟨h, e⟩ | ⟨h, e⟩ | ⟨h, e⟩
  · rw [e, sgn_mulp h, Int.mul_one]
  · rw [e, show i * j = -(i * -j) by grind, sgn_neg, sgn_mulp (by omega)]; grind
  · rw [h, Int.mul_zero, sgn_0, Int.mul_zero]
theorem sgn_l {i : Int} : (sgn i < 0) ↔ i < 0 := by rcases sgn_c i with ⟨h, e⟩ | ⟨h, e⟩ | ⟨h, e⟩ <;> omega
def sg2 (A B u : Int) : Int := if sgn A = 0 then sgn B else if sgn B = 0 ∨ sgn A = sgn B then sgn A else sgn A * sgn (A * A - B * B * u)
def sg3 (A B u C v : Int) : Int := if sg2 A B u = 0 then sgn C else if sgn C = 0 ∨ sg2 A B u = sgn C then sg2 A B u else sg2 A B u * sg2 (A * A + B * B * u - C * C * v) (2 * (A * B)) u
theorem sg2_mul {A B u k : Int} (hk : 0 < k) : sg2 (A * k) (B * k) u = sg2 A B u := by
  unfold sg2
  rw [sgn_mulp hk, sgn_mulp hk, show A * k * (A * k) - B * k * (B * k) * u = (A * A - B * B * u) * (k * k) by grind, sgn_mulp (Int.mul_pos hk hk)]
theorem sg3_mul {A B u C v k : Int} (hk : 0 < k) : sg3 (A * k) (B * k) u (C * k) v = sg3 A B u C v := by
  unfold sg3
  rw [sg2_mul hk, sgn_mulp hk, show A * k * (A * k) + B * k * (B * k) * u - C * k * (C * k) * v = (A * A + B * B * u - C * C * v) * (k * k) by grind,
    show 2 * (A * k * (B * k)) = 2 * (A * B) * (k * k) by grind, sg2_mul (Int.mul_pos hk hk)]
theorem sg2_b0 {A u : Int} : sg2 A 0 u = sgn A := by
  unfold sg2
  rw [sgn_0]
  by_cases h : sgn A = 0
  · rw [if_pos h, h]
  · rw [if_neg h, if_pos (.inl rfl)]
theorem sg2_a0 {B u : Int} : sg2 0 B u = sgn B := by
  unfold sg2
  rw [sgn_0, if_pos rfl]
theorem sg2_r (A B u : Int) : sg2 A B u = 1 ∨ sg2 A B u = -1 ∨ sg2 A B u = 0 := by
  unfold sg2
  rcases sgn_c A with ⟨h, e⟩ | ⟨h, e⟩ | ⟨h, e⟩ <;> rcases sgn_c B with ⟨h', e'⟩ | ⟨h', e'⟩ | ⟨h', e'⟩ <;> rcases sgn_c (A * A - B * B * u) with ⟨h2, e2⟩ | ⟨h2, e2⟩ | ⟨h2, e2⟩ <;> rw [e, e'] <;> simp [e2]
/-- p is the whole root of x -/
structure Sq (x p : Int) : Prop where
  p0 : 0 ≤ p
  lo : p * p ≤ x
  hi : x < (p + 1) * (p + 1)
theorem sq_ex : ∀ n : Nat, ∃ p, Sq (n : Int) p
  | 0 => ⟨0, by decide, by decide, by decide⟩
  | n + 1 => by
    obtain ⟨p, h0, h1, h2⟩ := sq_ex n
    by_cases c : ((n + 1 : Nat) : Int) < (p + 1) * (p + 1)
    · exact ⟨p, h0, by omega, c⟩
    · refine ⟨p + 1, by omega, by omega, ?_⟩
      have : (p + 1 + 1) * (p + 1 + 1) = (p + 1) * (p + 1) + 2 * p + 3 := by grind
      omega
theorem sq_exI {x : Int} (h : 0 ≤ x) : ∃ p, Sq x p := by
  obtain ⟨p, q⟩ := sq_ex x.toNat
  exact ⟨p, by rw [Int.toNat_of_nonneg h] at q; exact q⟩
theorem lt_sq {a b : Int} (hb : 0 ≤ b) (h : a * a < b * b) : a < b := by
  rcases Int.lt_or_le a b with c | c
  · exact c
  · have := Int.mul_le_mul c c hb (by omega)
    omega
theorem le_sq {a b : Int} (hb : 0 ≤ b) (h : a * a ≤ b * b) : a ≤ b := by
  have := lt_sq (a := a) (b := b + 1) (by omega) (by grind)
  omega
theorem Sq.uniq {x p q : Int} (h : Sq x p) (h' : Sq x q) : p = q := by
  have a := lt_sq (a := p) (b := q + 1) (by have := h'.p0; omega) (by have := h.lo; have := h'.hi; omega)
  have b := lt_sq (a := q) (b := p + 1) (by have := h.p0; omega) (by have := h'.lo; have := h.hi; omega)
  omega
theorem Sq.zero {p : Int} (h : Sq 0 p) : p = 0 := h.uniq ⟨by decide, by decide, by decide⟩
theorem Sq.ge {x p N : Int} (h : Sq x p) (hx : N * N ≤ x) : N ≤ p := by
  have := lt_sq (a := N) (b := p + 1) (by have := h.p0; omega) (by have := h.hi; omega)
  omega
theorem mul_c {a b c : Int} (h : 0 < c) (e : a * c ≤ b * c) : a ≤ b := Int.le_of_mul_le_mul_right e h
theorem fin1 {M N y : Int} (hM : 1 ≤ M) (hN : 0 ≤ N) (h : N ≤ y + 1) : N ≤ 2 * M * (y + 1) := by
  have := Int.mul_le_mul_of_nonneg_right (show 1 ≤ 2 * M by omega) (show 0 ≤ y + 1 by omega)
  omega
theorem core1 {a p N M x : Int} (hN : 0 < N) (ha : 0 ≤ a) (hp : 0 ≤ p) (h1 : p * p ≤ x) (h2 : x + N * N ≤ (a * N) * (a * N)) (hM : a ≤ M) : N ≤ 2 * M * (a * N - p + 1) := by
  have aN : 0 ≤ a * N := Int.mul_nonneg ha (by omega)
  have NN : 0 < N * N := Int.mul_pos hN hN
  have l : p < a * N := lt_sq aN (by omega)
  have MN : a * N ≤ M * N := Int.mul_le_mul_of_nonneg_right hM (by omega)
  have e : (a * N - p) * (a * N + p) ≤ (a * N - p) * (2 * M * N) := Int.mul_le_mul_of_nonneg_left (by grind) (by omega)
  have : N * N ≤ 2 * M * (a * N - p) * N := by grind
  have := mul_c hN this
  grind
theorem core2 {a p N M x : Int} (hN : 0 < N) (ha : 0 ≤ a) (hp : 0 ≤ p) (h1 : x < (p + 1) * (p + 1)) (h2 : (a * N) * (a * N) + N * N ≤ x) (hM : a ≤ M) (hM2 : p + 1 ≤ M * N) : N ≤ 2 * M * (p - a * N + 1) := by
  have aN : 0 ≤ a * N := Int.mul_nonneg ha (by omega)
  have NN : 0 < N * N := Int.mul_pos hN hN
  have l : a * N < p + 1 := lt_sq (by omega) (by omega)
  have MN : a * N ≤ M * N := Int.mul_le_mul_of_nonneg_right hM (by omega)
  have e : (p + 1 - a * N) * (p + 1 + a * N) ≤ (p + 1 - a * N) * (2 * M * N) := Int.mul_le_mul_of_nonneg_left (by grind) (by omega)
  have : N * N ≤ 2 * M * (p - a * N + 1) * N := by grind
  exact mul_c hN this
theorem one_le_sq {B u : Int} (hB : B ≠ 0) (hu : 1 ≤ u) : 1 ≤ B * B * u := by
  have : 1 ≤ B * B := by
    rcases Int.lt_or_gt_of_ne hB with h | h
    · have := Int.mul_pos (show 0 < -B by omega) (show 0 < -B by omega)
      grind
    · have := Int.mul_pos h h
      omega
  have := Int.mul_le_mul_of_nonneg_left hu (show 0 ≤ B * B by omega)
  omega
/-- two terms -/
theorem two {A B u N M p : Int} (hN : 0 < N) (hM : 1 ≤ M) (hu : 1 ≤ u) (hp : Sq (B * B * u * (N * N)) p) (hA1 : A ≤ M) (hA2 : -A ≤ M) (hpM : p + 1 ≤ M * N) (h : sg2 A B u ≠ 0) :
    N ≤ 2 * M * (sg2 A B u * (A * N + sgn B * p) + 1) := by
  have p0 := hp.p0
  have NN : 0 < N * N := Int.mul_pos hN hN
  have big : B ≠ 0 → N ≤ p := fun hB => hp.ge (by
    have := Int.mul_le_mul_of_nonneg_right (one_le_sq hB hu) (show 0 ≤ N * N by omega)
    omega)
  have z : B = 0 → p = 0 := fun hB => by
    subst hB
    rw [Int.zero_mul, Int.zero_mul, Int.zero_mul] at hp
    exact hp.zero
  have aN : ∀ a : Int, 0 < a → N ≤ a * N := fun a ha => by
    have := Int.mul_le_mul_of_nonneg_right (show 1 ≤ a by omega) (show 0 ≤ N by omega)
    omega
  unfold sg2 at h ⊢
  rcases sgn_c A with ⟨a, e⟩ | ⟨a, e⟩ | ⟨a, e⟩
  · rcases sgn_c B with ⟨b, f⟩ | ⟨b, f⟩ | ⟨b, f⟩
    · rw [e, f, if_neg (by decide), if_pos (.inr rfl)]
      exact fin1 hM (by omega) (by have := aN A a; omega)
    · rw [e, f, if_neg (by decide), if_neg (by decide)] at h ⊢
      rcases sgn_c (A * A - B * B * u) with ⟨d, g⟩ | ⟨d, g⟩ | ⟨d, g⟩
      · rw [g]
        have := core1 hN (show 0 ≤ A by omega) p0 hp.lo (by
          have := Int.mul_le_mul_of_nonneg_right (show B * B * u + 1 ≤ A * A by omega) (show 0 ≤ N * N by omega)
          grind) hA1
        grind
      · rw [g]
        have := core2 hN (show 0 ≤ A by omega) p0 hp.hi (by
          have := Int.mul_le_mul_of_nonneg_right (show A * A + 1 ≤ B * B * u by omega) (show 0 ≤ N * N by omega)
          grind) hA1 hpM
        grind
      · rw [g] at h
        exact absurd rfl h
    · rw [e, f, if_neg (by decide), if_pos (.inl rfl)]
      exact fin1 hM (by omega) (by have := aN A a; omega)
  · rcases sgn_c B with ⟨b, f⟩ | ⟨b, f⟩ | ⟨b, f⟩
    · rw [e, f, if_neg (by decide), if_neg (by decide)] at h ⊢
      rcases sgn_c (A * A - B * B * u) with ⟨d, g⟩ | ⟨d, g⟩ | ⟨d, g⟩
      · rw [g]
        have := core1 (a := -A) hN (show 0 ≤ -A by omega) p0 hp.lo (by
          have := Int.mul_le_mul_of_nonneg_right (show B * B * u + 1 ≤ A * A by omega) (show 0 ≤ N * N by omega)
          grind) hA2
        grind
      · rw [g]
        have := core2 (a := -A) hN (show 0 ≤ -A by omega) p0 hp.hi (by
          have := Int.mul_le_mul_of_nonneg_right (show A * A + 1 ≤ B * B * u by omega) (show 0 ≤ N * N by omega)
          grind) hA2 hpM
        grind
      · rw [g] at h
        exact absurd rfl h
    · rw [e, f, if_neg (by decide), if_pos (.inr rfl)]
      exact fin1 hM (by omega) (by have := aN (-A) (by omega); grind)
    · rw [e, f, if_neg (by decide), if_pos (.inl rfl)]
      exact fin1 hM (by omega) (by have := aN (-A) (by omega); grind)
  · rw [e, if_pos rfl] at h ⊢
    subst a
    rcases sgn_c B with ⟨b, f⟩ | ⟨b, f⟩ | ⟨b, f⟩
    · rw [f]
      exact fin1 hM (by omega) (by have := big (by omega); grind)
    · rw [f]
      exact fin1 hM (by omega) (by have := big (by omega); grind)
    · exact absurd f h
theorem bounds {A B N M p : Int} (hN : 0 < N) (hA1 : A ≤ M) (hA2 : -A ≤ M) (p0 : 0 ≤ p) (hpM : p + 1 ≤ M * N) (s : Int) (hs : s = 1 ∨ s = -1 ∨ s = 0) (t : Int) (ht : t = 1 ∨ t = -1 ∨ t = 0) : s * (A * N + t * p) ≤ 2 * (M * N) := by
  have h1 := Int.mul_le_mul_of_nonneg_right hA1 (show 0 ≤ N by omega)
  have h2 := Int.mul_le_mul_of_nonneg_right hA2 (show 0 ≤ N by omega)
  rcases hs with rfl | rfl | rfl <;> rcases ht with rfl | rfl | rfl <;> grind
/-- what's mixed: r beside twice A p -/
theorem mixed {A B u N M p r : Int} (hN : 0 < N) (hM : 1 ≤ M) (hp : Sq (B * B * u * (N * N)) p) (hr : Sq (2 * (A * B) * (2 * (A * B)) * u * (N * N)) r) (hA1 : A ≤ M) (hA2 : -A ≤ M) :
    -(2 * M) ≤ 2 * A * sgn B * p - sgn (2 * (A * B)) * r ∧ 2 * A * sgn B * p - sgn (2 * (A * B)) * r ≤ 2 * M := by
  have p0 := hp.p0
  have r0 := hr.p0
  have plo := hp.lo
  have phi := hp.hi
  have rlo := hr.lo
  have rhi := hr.hi
  have go : ∀ a : Int, 0 < a → a * a = A * A → 2 * a * p ≤ r ∧ r < 2 * a * (p + 1) := fun a ha e => by
    have e2 : 2 * (A * B) * (2 * (A * B)) * u * (N * N) = 4 * (a * a) * (B * B * u * (N * N)) := by grind
    have aa : 0 < a * a := Int.mul_pos ha ha
    rw [e2] at rlo rhi
    have k1 := Int.mul_le_mul_of_nonneg_left plo (show 0 ≤ 4 * (a * a) by omega)
    have k2 := Int.mul_lt_mul_of_pos_left phi (show 0 < 4 * (a * a) by omega)
    have ap : 0 ≤ a * p := Int.mul_nonneg (by omega) p0
    constructor
    · have := lt_sq (a := 2 * a * p) (b := r + 1) (by omega) (by grind)
      omega
    · exact lt_sq (by grind) (by grind)
  have e1 : sgn (2 * (A * B)) = sgn A * sgn B := by rw [sgn_mul, sgn_mul]; show 1 * _ = _; grind
  rw [e1]
  rcases sgn_c A with ⟨a, e⟩ | ⟨a, e⟩ | ⟨a, e⟩
  · obtain ⟨g1, g2⟩ := go A a rfl
    rcases sgn_c B with ⟨b, f⟩ | ⟨b, f⟩ | ⟨b, f⟩ <;> rw [e, f] <;> grind
  · obtain ⟨g1, g2⟩ := go (-A) (by omega) (by grind)
    rcases sgn_c B with ⟨b, f⟩ | ⟨b, f⟩ | ⟨b, f⟩ <;> rw [e, f] <;> grind
  · rw [e, a]
    grind
/-- three terms -/
theorem three {A B C u v N M M2 E p q r : Int} (hN : 0 < N) (hM : 1 ≤ M) (hM2 : 1 ≤ M2) (hE : 0 ≤ E) (hu : 1 ≤ u) (hv : 1 ≤ v) (hp : Sq (B * B * u * (N * N)) p) (hq : Sq (C * C * v * (N * N)) q)
    (hr : Sq (2 * (A * B) * (2 * (A * B)) * u * (N * N)) r) (hA1 : A ≤ M) (hA2 : -A ≤ M) (hpM : p + 1 ≤ M * N) (hqM : q + 1 ≤ M * N)
    (hP1 : A * A + B * B * u - C * C * v ≤ M2) (hP2 : -(A * A + B * B * u - C * C * v) ≤ M2) (hrM : r + 1 ≤ M2 * N)
    (hN1 : 2 * M * (E + 1) ≤ N) (hN2 : 2 * M2 * (3 * M * E + 4 * M + 2) ≤ N)
    (z1 : sg2 A B u = 0 → A = 0 ∧ B = 0) (z2 : sg2 A B u ≠ 0 → sgn C ≠ 0 → sg2 A B u ≠ sgn C → sg2 (A * A + B * B * u - C * C * v) (2 * (A * B)) u ≠ 0)
    (h : sg3 A B u C v ≠ 0) : E ≤ sg3 A B u C v * (A * N + sgn B * p + sgn C * q) := by
  have p0 := hp.p0
  have q0 := hq.p0
  have NN : 0 < N * N := Int.mul_pos hN hN
  have hNE : E ≤ N - 1 := by
    have := Int.mul_le_mul_of_nonneg_right (show 1 ≤ 2 * M by omega) (show 0 ≤ E + 1 by omega)
    omega
  have T1 := fun h => two hN hM hu hp hA1 hA2 hpM h
  have T2 : sg2 A B u ≠ 0 → E ≤ sg2 A B u * (A * N + sgn B * p) := fun h => by
    have := Int.le_trans hN1 (T1 h)
    have := Int.le_of_mul_le_mul_left this (show 0 < 2 * M by omega)
    omega
  unfold sg3 at h ⊢
  by_cases c1 : sg2 A B u = 0
  · obtain ⟨rfl, rfl⟩ := z1 c1
    rw [if_pos c1] at h ⊢
    have e : p = 0 := by
      rw [Int.zero_mul, Int.zero_mul, Int.zero_mul] at hp
      exact hp.zero
    have big : C ≠ 0 → N ≤ q := fun hB => hq.ge (by
      have := Int.mul_le_mul_of_nonneg_right (one_le_sq hB hv) (show 0 ≤ N * N by omega)
      omega)
    rw [e]
    rcases sgn_c C with ⟨b, f⟩ | ⟨b, f⟩ | ⟨b, f⟩
    · have := big (by omega); rw [f]; grind
    · have := big (by omega); rw [f]; grind
    · exact absurd f h
  · have t2 := T2 c1
    rw [if_neg c1] at h ⊢
    by_cases c2 : sgn C = 0 ∨ sg2 A B u = sgn C
    · rw [if_pos c2] at h ⊢
      have : 0 ≤ sg2 A B u * (sgn C * q) := by
        rcases c2 with c2 | c2
        · rw [c2]; grind
        · rw [c2]
          rcases sgn_c C with ⟨b, f⟩ | ⟨b, f⟩ | ⟨b, f⟩ <;> rw [f] <;> grind
      grind
    · rw [if_neg c2] at h ⊢
      have c3 : sgn C ≠ 0 := fun e => c2 (.inl e)
      have c4 : sg2 A B u ≠ sgn C := fun e => c2 (.inr e)
      have c5 := z2 c1 c3 c4
      obtain ⟨m1, m2⟩ := mixed hN hM hp hr hA1 hA2
      have Z := two hN hM2 hu hr hP1 hP2 hrM c5
      have Z2 := Int.le_trans hN2 Z
      have Z3 := Int.le_of_mul_le_mul_left Z2 (show 0 < 2 * M2 by omega)
      have bd := bounds (A := A) (B := B) hN hA1 hA2 p0 hpM (sg2 A B u) (sg2_r A B u) (sgn B) (by rcases sgn_c B with ⟨b, f⟩ | ⟨b, f⟩ | ⟨b, f⟩ <;> rw [f] <;> simp)
      have sB : sgn B * sgn B * (p * p) = p * p := by
        rcases sgn_c B with ⟨b, f⟩ | ⟨b, f⟩ | ⟨b, f⟩
        · rw [f]; grind
        · rw [f]; grind
        · rw [b, Int.zero_mul, Int.zero_mul, Int.zero_mul] at hp
          rw [hp.zero]; grind
      have e1 := hp.lo
      have e2 := hp.hi
      have e3 := hq.lo
      have e4 := hq.hi
      have sC : sgn C = -(sg2 A B u) := by
        rcases sg2_r A B u with k | k | k
        · rcases sgn_c C with ⟨b, f⟩ | ⟨b, f⟩ | ⟨b, f⟩ <;> omega
        · rcases sgn_c C with ⟨b, f⟩ | ⟨b, f⟩ | ⟨b, f⟩ <;> omega
        · exact absurd k c1
      have ss : sg2 A B u * sg2 A B u = 1 := by
        rcases sg2_r A B u with k | k | k
        · rw [k]; rfl
        · rw [k]; rfl
        · exact absurd k c1
      rw [sC]
      generalize hf : 2 * A * sgn B * p - sgn (2 * (A * B)) * r = f at m1 m2
      generalize hzz : (A * A + B * B * u - C * C * v) * N + sgn (2 * (A * B)) * r = z at Z3
      generalize hy : A * N + sgn B * p = y at bd t2
      have dif : y * y - q * q = N * z + N * f - (B * B * u * (N * N) - p * p) + (C * C * v * (N * N) - q * q) := by
        rw [← hy, ← hf, ← hzz]
        grind
      have nf1 : -(2 * (M * N)) ≤ N * f := by
        have := Int.mul_le_mul_of_nonneg_left m1 (show 0 ≤ N by omega)
        grind
      have nf2 : N * f ≤ 2 * (M * N) := by
        have := Int.mul_le_mul_of_nonneg_left m2 (show 0 ≤ N by omega)
        grind
      have d1 : y * y - q * q ≥ N * z - 4 * (M * N) := by grind
      have d2 : y * y - q * q ≤ N * z + 4 * (M * N) := by grind
      clear dif hf hzz hy
      generalize hs : sg2 A B u = s at *
      have yy : (s * y) * (s * y) = y * y := by
        have : (s * y) * (s * y) = s * s * (y * y) := by grind
        rw [this, ss, Int.one_mul]
      generalize hsy : s * y = w at *
      have w0 : 0 ≤ w := by omega
      have key : ∀ a b : Int, 0 ≤ a → 0 ≤ b → a + b ≤ 3 * (M * N) → N * (3 * M * E + 1) ≤ a * a - b * b → E ≤ a - b := fun a b ha hb hab hh => by
        rcases Int.lt_or_le (a - b) E with c | c
        · have k1 : (a - b) * (a + b) ≤ E * (a + b) := Int.mul_le_mul_of_nonneg_right (by omega) (by omega)
          have k2 : E * (a + b) ≤ E * (3 * (M * N)) := Int.mul_le_mul_of_nonneg_left hab hE
          grind
        · exact c
      rcases sg2_r (A * A + B * B * u - C * C * v) (2 * (A * B)) u with k | k | k
      · rw [k] at Z3 ⊢
        have nz : N * (3 * M * E + 4 * M + 1) ≤ N * z := Int.mul_le_mul_of_nonneg_left (by omega) (by omega)
        have := key w q w0 q0 (by omega) (by rw [yy]; grind)
        grind
      · rw [k] at Z3 ⊢
        have nz : N * z ≤ N * (-(3 * M * E + 4 * M + 1)) := Int.mul_le_mul_of_nonneg_left (by omega) (by omega)
        have := key q w q0 w0 (by omega) (by rw [yy]; grind)
        grind
      · exact absurd k c5
end Km
namespace Km
theorem Prt.sq1 {a : Nat} (h : 1 ≤ a) : Prt (a * a) a 1 := ⟨by omega, h, Nat.le_refl _, fun t ht hd => by
  have := Nat.le_of_dvd (by decide) hd
  have := Nat.mul_le_mul ht ht
  omega⟩
theorem Prt.sqm {b u : Nat} (h : 1 ≤ b) (p : Prt u 1 u) : Prt (b * b * u) b u := ⟨rfl, h, p.u1, p.free⟩
theorem abs_sq (a : Int) : ((a.natAbs * a.natAbs : Nat) : Int) = a * a := by
  rw [Int.natCast_mul]
  exact Int.natAbs_mul_self' a
theorem free_sq {A B : Int} {u : Nat} (p : Prt u 1 u) (hA : A ≠ 0) (hB : B ≠ 0) (e : A * A = B * B * u) : u = 1 := by
  have e' : A.natAbs * A.natAbs = B.natAbs * B.natAbs * u := by
    have : ((A.natAbs * A.natAbs : Nat) : Int) = ((B.natAbs * B.natAbs * u : Nat) : Int) := by
      rw [abs_sq, Int.natCast_mul, abs_sq, e]
    omega
  have h1 := Prt.sq1 (a := A.natAbs) (by omega)
  rw [e'] at h1
  exact (h1.uniq (Prt.sqm (by omega) p)).2.symm
theorem free_two {B C : Int} {u v : Nat} (p : Prt u 1 u) (p' : Prt v 1 v) (hB : B ≠ 0) (hC : C ≠ 0) (e : B * B * u = C * C * v) : u = v ∧ B.natAbs = C.natAbs := by
  have e' : B.natAbs * B.natAbs * u = C.natAbs * C.natAbs * v := by
    have : ((B.natAbs * B.natAbs * u : Nat) : Int) = ((C.natAbs * C.natAbs * v : Nat) : Int) := by
      rw [Int.natCast_mul, abs_sq, Int.natCast_mul, abs_sq, e]
    omega
  have h1 := Prt.sqm (b := B.natAbs) (u := u) (by omega) p
  rw [e'] at h1
  have := h1.uniq (Prt.sqm (by omega) p')
  exact ⟨this.2, this.1⟩
theorem sg2_z {A B : Int} {u : Nat} (p : Prt u 1 u) (h1 : u = 1 → B = 0) (h : sg2 A B u = 0) : A = 0 ∧ B = 0 := by
  unfold sg2 at h
  rcases sgn_c A with ⟨a, e⟩ | ⟨a, e⟩ | ⟨a, e⟩
  · rw [e, if_neg (by decide)] at h
    split at h
    · cases h
    · rename_i c
      have hB : B ≠ 0 := fun z => c (.inl (by rw [z]; rfl))
      have : A * A - B * B * u = 0 := sgn_z.mp ((Int.mul_eq_zero.mp h).resolve_left (by decide))
      exact absurd (h1 (free_sq (A := A) p (by omega) hB (by omega))) hB
  · rw [e, if_neg (by decide)] at h
    split at h
    · cases h
    · rename_i c
      have hB : B ≠ 0 := fun z => c (.inl (by rw [z]; rfl))
      have : A * A - B * B * u = 0 := sgn_z.mp ((Int.mul_eq_zero.mp h).resolve_left (by decide))
      exact absurd (h1 (free_sq (A := A) p (by omega) hB (by omega))) hB
  · rw [e, if_pos rfl] at h
    exact ⟨a, sgn_z.mp h⟩
theorem mixed_nz {A B C : Int} {u v : Nat} (p : Prt u 1 u) (p' : Prt v 1 v) (h1 : u = 1 → B = 0) (h2 : v = 1 → C = 0) (ne : ¬ (A = 0 ∧ C = -B ∧ u = v)) (c1 : sg2 A B u ≠ 0) (c3 : sgn C ≠ 0) (c4 : sg2 A B u ≠ sgn C) :
    sg2 (A * A + B * B * u - C * C * v) (2 * (A * B)) u ≠ 0 := fun h => by
  have hC : C ≠ 0 := fun z => c3 (by rw [z]; rfl)
  obtain ⟨e1, e2⟩ := sg2_z p (fun z => by rw [h1 z]; simp) h
  have e2 : A * B = 0 := by omega
  rcases Int.mul_eq_zero.mp e2 with z | z
  · subst z
    rw [sg2_a0] at c1 c4
    have hB : B ≠ 0 := fun z => c1 (by rw [z]; rfl)
    obtain ⟨k1, k2⟩ := free_two p p' hB hC (by omega)
    refine ne ⟨rfl, ?_, k1⟩
    rcases sgn_c B with ⟨b, f⟩ | ⟨b, f⟩ | ⟨b, f⟩ <;> rcases sgn_c C with ⟨b', f'⟩ | ⟨b', f'⟩ | ⟨b', f'⟩ <;> omega
  · subst z
    rw [sg2_b0] at c1
    have hA : A ≠ 0 := fun z => c1 (by rw [z]; rfl)
    exact hC (h2 (free_sq p' hA hC (by grind)))
theorem sg3_nz {A B C : Int} {u v : Nat} (p : Prt u 1 u) (p' : Prt v 1 v) (h1 : u = 1 ↔ B = 0) (h2 : v = 1 ↔ C = 0) (ne : ¬ (A = 0 ∧ C = -B ∧ u = v)) : sg3 A B u C v ≠ 0 := fun h => by
  unfold sg3 at h
  by_cases c1 : sg2 A B u = 0
  · rw [if_pos c1] at h
    obtain ⟨a, b⟩ := sg2_z p h1.mp c1
    have c := sgn_z.mp h
    exact ne ⟨a, by omega, by rw [h1.mpr b, h2.mpr c]⟩
  · rw [if_neg c1] at h
    split at h
    · exact c1 h
    · rename_i c2
      have c5 := mixed_nz p p' h1.mp h2.mp ne c1 (fun e => c2 (.inl e)) (fun e => c2 (.inr e))
      rcases Int.mul_eq_zero.mp h with z | z
      · exact c1 z
      · exact c5 z
theorem sg3_r (A B u C v : Int) : sg3 A B u C v = 1 ∨ sg3 A B u C v = -1 ∨ sg3 A B u C v = 0 := by
  unfold sg3
  split
  · rcases sgn_c C with ⟨b, f⟩ | ⟨b, f⟩ | ⟨b, f⟩ <;> rw [f] <;> simp
  · split
    · exact sg2_r _ _ _
    · rcases sg2_r A B u with k | k | k <;> rcases sg2_r (A * A + B * B * u - C * C * v) (2 * (A * B)) u with k' | k' | k' <;> rw [k, k'] <;> simp
/-- what's told of a ROOT N times, a whole number below it or it: k the whole root -/
def wd (a1 a2 b1 N k : Int) : Int := if 0 ≤ b1 then (a1 * N).fdiv a2 + k else (a1 * N).fdiv a2 - k
def wx (b1 b2 u N : Int) : Int := (b1 * b1 * u * N * N).fdiv (b2 * b2)
theorem fdiv_b {a b : Int} (h : 0 < b) : b * a.fdiv b ≤ a ∧ a < b * a.fdiv b + b := by
  rw [Int.fdiv_eq_ediv_of_nonneg _ (by omega)]
  have h1 := Int.mul_ediv_add_emod a b
  have h2 := Int.emod_nonneg a (show b ≠ 0 by omega)
  have h3 := Int.emod_lt_of_pos a h
  omega
theorem wd_err {a1 a2 b1 b2 a' b' D u N k p : Int} (hN : 0 ≤ N) (ha : 0 < a2) (hb : 0 < b2) (ha' : 0 < a') (hb' : 0 < b') (e1 : a2 * a' = D) (e2 : b2 * b' = D) (hk : Sq (wx b1 b2 u N) k) (hp : Sq (b1 * b' * (b1 * b') * u * (N * N)) p) :
    -(2 * D) ≤ D * wd a1 a2 b1 N k - (a1 * a' * N + sgn (b1 * b') * p) ∧ D * wd a1 a2 b1 N k - (a1 * a' * N + sgn (b1 * b') * p) ≤ 2 * D := by
  have D0 : 0 < D := by rw [← e1]; exact Int.mul_pos ha ha'
  obtain ⟨f1, f2⟩ := fdiv_b (a := a1 * N) ha
  have g1 := Int.mul_le_mul_of_nonneg_left f1 (show 0 ≤ a' by omega)
  have g2 := Int.mul_lt_mul_of_pos_left f2 ha'
  obtain ⟨y1, y2⟩ := fdiv_b (a := b1 * b1 * u * N * N) (Int.mul_pos hb hb)
  change b2 * b2 * wx b1 b2 u N ≤ _ at y1
  change _ < b2 * b2 * wx b1 b2 u N + _ at y2
  generalize wx b1 b2 u N = y at *
  have bb : 0 < b' * b' := Int.mul_pos hb' hb'
  have g3 := Int.mul_le_mul_of_nonneg_left y1 (show 0 ≤ b' * b' by omega)
  have g4 := Int.mul_lt_mul_of_pos_left y2 bb
  have DD : 0 < D * D := Int.mul_pos D0 D0
  have k0 := hk.p0
  have p0 := hp.p0
  have g5 := Int.mul_le_mul_of_nonneg_left hk.lo (show 0 ≤ D * D by omega)
  have g6 := Int.mul_le_mul_of_nonneg_left (show y + 1 ≤ (k + 1) * (k + 1) by have := hk.hi; omega) (show 0 ≤ D * D by omega)
  have plo := hp.lo
  have phi := hp.hi
  have Dk : 0 ≤ D * k := Int.mul_nonneg (by omega) k0
  have q1 : D * k ≤ p := by
    have := lt_sq (a := D * k) (b := p + 1) (by omega) (by subst e2; grind)
    omega
  have q2 : p < D * k + D := lt_sq (by omega) (by subst e2; grind)
  have q3 : -D ≤ D * (a1 * N).fdiv a2 - a1 * a' * N ∧ D * (a1 * N).fdiv a2 - a1 * a' * N ≤ 0 := by
    generalize (a1 * N).fdiv a2 = z at *
    subst e1
    grind
  rw [sgn_mulp hb']
  unfold wd
  generalize (a1 * N).fdiv a2 = z at *
  rcases sgn_c b1 with ⟨b, f⟩ | ⟨b, f⟩ | ⟨b, f⟩
  · rw [f, if_pos (by omega)]
    grind
  · rw [f, if_neg (by omega)]
    grind
  · rw [f, if_pos (by omega)]
    have : k = 0 := by
      subst b
      have : p = 0 := by
        rw [show (0 : Int) * b' * (0 * b') * u * (N * N) = 0 by grind] at hp
        exact hp.zero
      rcases Int.lt_or_le k 1 with c | c
      · omega
      · have := Int.mul_le_mul_of_nonneg_left c (show 0 ≤ D by omega)
        omega
    subst this
    grind
end Km
namespace Km
theorem sg3_b0 {A u C v : Int} : sg3 A 0 u C v = sg2 A C v := by
  unfold sg3
  rw [sg2_b0]
  conv => rhs; unfold sg2
  rw [show 2 * (A * 0) = 0 by omega, sg2_b0, show A * A + 0 * 0 * u - C * C * v = A * A - C * C * v by grind]
theorem sg3_c0 {A B u v : Int} : sg3 A B u 0 v = sg2 A B u := by
  unfold sg3
  by_cases h : sg2 A B u = 0
  · rw [if_pos h, h]; rfl
  · rw [if_neg h, if_pos (.inl rfl)]
theorem sg2_neg {A B u : Int} : sg2 (-A) (-B) u = -sg2 A B u := by
  unfold sg2
  rw [sgn_neg, sgn_neg, show -A * -A - -B * -B * u = A * A - B * B * u by grind]
  rcases sgn_c A with ⟨a, e⟩ | ⟨a, e⟩ | ⟨a, e⟩ <;> rcases sgn_c B with ⟨b, f⟩ | ⟨b, f⟩ | ⟨b, f⟩ <;> rw [e, f] <;> simp
/-- a ROOT: lowered, of small parts -/
structure Rt (a1 a2 b1 b2 : Int) (u : Nat) : Prop where
  sa : Sm 11 a1
  sa2 : Sm 5 a2
  sb : Sm 5 b1
  sb2 : Sm 5 b2
  pa : 0 < a2
  pb : 0 < b2
  ga : Nat.gcd a1.natAbs a2.natAbs = 1
  gb : Nat.gcd b1.natAbs b2.natAbs = 1
  fr : Prt u 1 u
  um : u ≤ 1000000
  u1 : u = 1 ↔ b1 = 0
theorem low_eq {a b c d : Int} (hb : 0 < b) (hd : 0 < d) (g1 : Nat.gcd a.natAbs b.natAbs = 1) (g2 : Nat.gcd c.natAbs d.natAbs = 1) (e : a * d = c * b) : a = c ∧ b = d := by
  have e' : a.natAbs * d.natAbs = c.natAbs * b.natAbs := by rw [← Int.natAbs_mul, ← Int.natAbs_mul, e]
  have d1 : b.natAbs ∣ d.natAbs := (Nat.Coprime.symm g1).dvd_of_dvd_mul_left ⟨c.natAbs, by rw [e', Nat.mul_comm]⟩
  have d2 : d.natAbs ∣ b.natAbs := (Nat.Coprime.symm g2).dvd_of_dvd_mul_left ⟨a.natAbs, by rw [← e', Nat.mul_comm]⟩
  have := Nat.dvd_antisymm d1 d2
  have : b = d := by omega
  subst this
  exact ⟨Int.eq_of_mul_eq_mul_right (by omega) e, rfl⟩
theorem sm_b {n : Nat} {i : Int} (h : Sm n i) : i < 2 ^ n ∧ -i < 2 ^ n := by
  have := h.lt
  have e : ((2 ^ n : Nat) : Int) = 2 ^ n := by simp
  omega
theorem sq_bd {x p N m : Int} (h : Sq x p) (h0 : 0 ≤ m * N) (h1 : x < (m * N) * (m * N)) : p + 1 ≤ m * N := by
  have := lt_sq (a := p) (b := m * N) h0 (by have := h.lo; omega)
  omega
theorem sq_bd2 {y p N m : Int} (h : Sq (y * (N * N)) p) (hN : 0 < N) (hm : 0 ≤ m) (h1 : y < m * m) : p + 1 ≤ m * N := sq_bd h (Int.mul_nonneg hm (by omega)) (by
  have := Int.mul_lt_mul_of_pos_right h1 (Int.mul_pos hN hN)
  grind)
theorem less_iff {a1 a2 b1 b2 c1 c2 d1 d2 k l : Int} {u v : Nat} (h : Rt a1 a2 b1 b2 u) (h' : Rt c1 c2 d1 d2 v) (hk : Sq (wx b1 b2 u (10 ^ 40)) k) (hl : Sq (wx d1 d2 v (10 ^ 40)) l) :
    (sg3 ((a1 * c2 - c1 * a2) * (b2 * d2)) (b1 * (a2 * c2 * d2)) u (-d1 * (a2 * c2 * b2)) v < 0) ↔ (¬ (a1 = c1 ∧ a2 = c2 ∧ b1 = d1 ∧ b2 = d2 ∧ u = v) ∧ wd a1 a2 b1 (10 ^ 40) k < wd c1 c2 d1 (10 ^ 40) l) := by
  have ha := h.pa
  have hb := h.pb
  have hc := h'.pa
  have hd := h'.pb
  have pm : ∀ {x y : Int}, 0 < x → 0 < y → 0 < x * y := fun h1 h2 => Int.mul_pos h1 h2
  by_cases same : a1 = c1 ∧ a2 = c2 ∧ b1 = d1 ∧ b2 = d2 ∧ u = v
  · obtain ⟨rfl, rfl, rfl, rfl, rfl⟩ := same
    constructor
    · intro q
      exfalso
      have e : sg3 ((a1 * a2 - a1 * a2) * (b2 * b2)) (b1 * (a2 * a2 * b2)) u (-b1 * (a2 * a2 * b2)) u = 0 := by
        unfold sg3
        rw [show (a1 * a2 - a1 * a2) * (b2 * b2) = 0 by grind, sg2_a0, show -b1 * (a2 * a2 * b2) = -(b1 * (a2 * a2 * b2)) by grind, sgn_neg]
        generalize b1 * (a2 * a2 * b2) = z
        by_cases hz : sgn z = 0
        · rw [if_pos hz, hz]; rfl
        · rw [if_neg hz, if_neg (by omega), show (0 * 0 + z * z * (u : Int) - -z * -z * u) = 0 by grind, show 2 * (0 * z) = 0 by omega]
          show sgn z * sg2 0 0 u = 0
          rw [sg2_a0, sgn_0, Int.mul_zero]
      omega
    · intro q
      exact absurd ⟨rfl, rfl, rfl, rfl, rfl⟩ q.1
  · have D0 : 0 < a2 * b2 * c2 * d2 := pm (pm (pm ha hb) hc) hd
    have s1 : Sm 20 (a2 * b2 * c2 * d2) := ((h.sa2.mul h.sb2).mul h'.sa2).mul h'.sb2
    have sA : Sm 27 ((a1 * c2 - c1 * a2) * (b2 * d2)) := ((h.sa.mul h'.sa2).sub (h'.sa.mul h.sa2)).mul (h.sb2.mul h'.sb2)
    have sB : Sm 20 (b1 * (a2 * c2 * d2)) := h.sb.mul ((h.sa2.mul h'.sa2).mul h'.sb2)
    have sC : Sm 20 (-d1 * (a2 * c2 * b2)) := (h'.sb.neg).mul ((h.sa2.mul h'.sa2).mul h.sb2)
    have su : Sm 20 (u : Int) := .of 1000000 (by have := h.um; omega)
    have sv : Sm 20 (v : Int) := .of 1000000 (by have := h'.um; omega)
    obtain ⟨p, hp⟩ := sq_exI (x := b1 * (a2 * c2 * d2) * (b1 * (a2 * c2 * d2)) * u * (10 ^ 40 * 10 ^ 40)) (Int.mul_nonneg (Int.mul_nonneg (by rw [← abs_sq]; omega) (by omega)) (by decide))
    obtain ⟨q, hq⟩ := sq_exI (x := d1 * (a2 * c2 * b2) * (d1 * (a2 * c2 * b2)) * v * (10 ^ 40 * 10 ^ 40)) (Int.mul_nonneg (Int.mul_nonneg (by rw [← abs_sq]; omega) (by omega)) (by decide))
    have W1 := wd_err (a1 := a1) (a' := b2 * c2 * d2) (b' := a2 * c2 * d2) (D := a2 * b2 * c2 * d2) (by decide) ha hb (pm (pm hb hc) hd) (pm (pm ha hc) hd) (by grind) (by grind) hk hp
    have W2 := wd_err (a1 := c1) (a' := a2 * b2 * d2) (b' := a2 * c2 * b2) (D := a2 * b2 * c2 * d2) (by decide) hc hd (pm (pm ha hb) hd) (pm (pm ha hc) hb) (by grind) (by grind) hl hq
    have hq' : Sq (-d1 * (a2 * c2 * b2) * (-d1 * (a2 * c2 * b2)) * v * (10 ^ 40 * 10 ^ 40)) q := by
      rw [show -d1 * (a2 * c2 * b2) * (-d1 * (a2 * c2 * b2)) = d1 * (a2 * c2 * b2) * (d1 * (a2 * c2 * b2)) by grind]
      exact hq
    have eC : sgn (-d1 * (a2 * c2 * b2)) = -sgn (d1 * (a2 * c2 * b2)) := by rw [show -d1 * (a2 * c2 * b2) = -(d1 * (a2 * c2 * b2)) by grind, sgn_neg]
    have eA : (a1 * c2 - c1 * a2) * (b2 * d2) = a1 * (b2 * c2 * d2) - c1 * (a2 * b2 * d2) := by grind
    have zB : b1 * (a2 * c2 * d2) = 0 ↔ b1 = 0 := ⟨fun z => (Int.mul_eq_zero.mp z).resolve_right (by have := pm (pm ha hc) hd; omega), fun z => by rw [z, Int.zero_mul]⟩
    have zC : -d1 * (a2 * c2 * b2) = 0 ↔ d1 = 0 := ⟨fun z => by have := (Int.mul_eq_zero.mp z).resolve_right (by have := pm (pm ha hc) hb; omega); omega, fun z => by rw [z]; grind⟩
    have ne : ¬ ((a1 * c2 - c1 * a2) * (b2 * d2) = 0 ∧ -d1 * (a2 * c2 * b2) = -(b1 * (a2 * c2 * d2)) ∧ u = v) := fun ⟨x1, x2, x3⟩ => by
      have y1 := (Int.mul_eq_zero.mp x1).resolve_right (by have := pm hb hd; omega)
      obtain ⟨z1, z2⟩ := low_eq ha hc h.ga h'.ga (show a1 * c2 = c1 * a2 by omega)
      have y2 : (b1 * d2) * (a2 * c2) = (d1 * b2) * (a2 * c2) := by grind
      have y3 := Int.eq_of_mul_eq_mul_right (by have := pm ha hc; omega) y2
      obtain ⟨z3, z4⟩ := low_eq hb hd h.gb h'.gb y3
      exact same ⟨z1, z2, z3, z4, x3⟩
    generalize (a1 * c2 - c1 * a2) * (b2 * d2) = A at *
    generalize b1 * (a2 * c2 * d2) = B at *
    generalize -d1 * (a2 * c2 * b2) = C at *
    generalize a2 * b2 * c2 * d2 = D at *
    obtain ⟨r, hr⟩ := sq_exI (x := 2 * (A * B) * (2 * (A * B)) * u * (10 ^ 40 * 10 ^ 40)) (Int.mul_nonneg (Int.mul_nonneg (by rw [← abs_sq]; omega) (by omega)) (by decide))
    have nz := sg3_nz (A := A) (B := B) (C := C) h.fr h'.fr (h.u1.trans zB.symm) (h'.u1.trans zC.symm) ne
    have sP : Sm 62 (A * A + B * B * u - C * C * v) := (((sA.mul sA).mono (m := 60)).add ((sB.mul sB).mul su)).sub (((sC.mul sC).mul sv).mono (m := 61))
    have sQ : Sm 50 (2 * (A * B)) := (Sm.of (n := 3) (i := 2) 2 (by decide)).mul (sA.mul sB)
    have T := three (N := 10 ^ 40) (M := 2 ^ 31) (M2 := 2 ^ 62) (E := 2 ^ 22 + 1) (by decide) (by decide) (by decide) (by decide) (by have := h.fr.u1; omega) (by have := h'.fr.u1; omega) hp hq' hr
      (by have := (sm_b sA).1; omega) (by have := (sm_b sA).2; omega)
      (Int.le_trans (sq_bd2 (m := 2 ^ 30) hp (by decide) (by decide) (by have := (sm_b ((sB.mul sB).mul su)).1; omega)) (by decide))
      (Int.le_trans (sq_bd2 (m := 2 ^ 30) hq' (by decide) (by decide) (by have := (sm_b ((sC.mul sC).mul sv)).1; omega)) (by decide))
      (by have := (sm_b sP).1; omega) (by have := (sm_b sP).2; omega)
      (Int.le_trans (sq_bd2 (m := 2 ^ 60) hr (by decide) (by decide) (by have := (sm_b ((sQ.mul sQ).mul su)).1; omega)) (by decide))
      (by decide) (by decide)
      (fun z => sg2_z h.fr (fun w => zB.mpr (h.u1.mp w)) z)
      (fun c1 c3 c4 => mixed_nz h.fr h'.fr (fun w => zB.mpr (h.u1.mp w)) (fun w => zC.mpr (h'.u1.mp w)) ne c1 c3 c4) nz
    rw [eC] at T
    have hD := (sm_b s1).1
    have X : A * 10 ^ 40 + sgn B * p + -sgn (d1 * (a2 * c2 * b2)) * q = (a1 * (b2 * c2 * d2) * 10 ^ 40 + sgn B * p) - (c1 * (a2 * b2 * d2) * 10 ^ 40 + sgn (d1 * (a2 * c2 * b2)) * q) := by
      rw [eA]
      grind
    rw [X] at T
    generalize a1 * (b2 * c2 * d2) * 10 ^ 40 + sgn B * p = X1 at *
    generalize c1 * (a2 * b2 * d2) * 10 ^ 40 + sgn (d1 * (a2 * c2 * b2)) * q = X2 at *
    generalize wd a1 a2 b1 (10 ^ 40) k = w1 at *
    generalize wd c1 c2 d1 (10 ^ 40) l = w2 at *
    rcases sg3_r A B u C v with g | g | g
    · rw [g] at T ⊢
      constructor
      · intro z; cases z
      · rintro ⟨_, z⟩
        exfalso
        have := Int.mul_le_mul_of_nonneg_left (show w1 ≤ w2 by omega) (show 0 ≤ D by omega)
        omega
    · rw [g] at T ⊢
      refine ⟨fun _ => ⟨same, ?_⟩, fun _ => by decide⟩
      rcases Int.lt_or_le w1 w2 with c | c
      · exact c
      · exfalso
        have := Int.mul_le_mul_of_nonneg_left c (show 0 ≤ D by omega)
        omega
    · exact absurd g nz
end Km
namespace Km
/-- x over y is P over L -/
def Req (x y P L : Int) : Prop := x * L = P * y
theorem lw_req {u v : Int} (hv : v ≠ 0) : lwN u v * v = u * lwD u v := by
  have g := gcd_pos (u := u) hv
  have s1 : sg v * v = ((v.natAbs : Nat) : Int) := by unfold sg; split <;> omega
  have d1 : ((Nat.gcd u.natAbs v.natAbs : Nat) : Int) ∣ sg v * u := Int.ofNat_dvd_left.mpr (by
    rw [Int.natAbs_mul, sg_abs, Nat.one_mul]
    exact Nat.gcd_dvd_left _ _)
  have d2 : ((Nat.gcd u.natAbs v.natAbs : Nat) : Int) ∣ ((v.natAbs : Nat) : Int) := by
    have := Nat.gcd_dvd_right u.natAbs v.natAbs
    omega
  unfold lwN lwD
  rw [Int.fdiv_eq_ediv_of_nonneg _ (by omega), Int.fdiv_eq_ediv_of_nonneg _ (by omega)]
  generalize ((Nat.gcd u.natAbs v.natAbs : Nat) : Int) = gg at *
  obtain ⟨k1, h1⟩ := d1
  obtain ⟨k2, h2⟩ := d2
  rw [h1, h2, Int.mul_ediv_cancel_left _ (by omega), Int.mul_ediv_cancel_left _ (by omega)]
  have ss : sg v * sg v = 1 := by unfold sg; split <;> rfl
  have : gg * (k1 * v) = gg * (u * k2) := by
    have e1 : gg * (k1 * v) = sg v * u * v := by rw [h1]; grind
    have e2 : gg * (u * k2) = u * (sg v * v) := by rw [s1, h2]; grind
    rw [e1, e2]; grind
  exact Int.eq_of_mul_eq_mul_left (by omega) this
theorem req_lw {u v : Int} (hv : 0 < v) : Req (lwN u v) (lwD u v) u v := lw_req (by omega)
theorem req_tr {x y P L n d : Int} (hy : 0 < y) (h1 : Req n d x y) (h2 : Req x y P L) : Req n d P L := by
  unfold Req at *
  have : y * (n * L) = y * (P * d) := by grind
  exact Int.eq_of_mul_eq_mul_left (by omega) this
theorem req_mul {x y P L x' y' P' L' : Int} (h1 : Req x y P L) (h2 : Req x' y' P' L') : Req (x * x') (y * y') (P * P') (L * L') := by
  unfold Req at *
  have : x * x' * (L * L') = (x * L) * (x' * L') := by grind
  rw [this, h1, h2]; grind
theorem req_add {x y P L x' y' P' L' : Int} (h1 : Req x y P L) (h2 : Req x' y' P' L') : Req (x * y' + x' * y) (y * y') (P * L' + P' * L) (L * L') := by
  unfold Req at *
  have : (x * y' + x' * y) * (L * L') = (x * L) * (y' * L') + (x' * L') * (y * L) := by grind
  rw [this, h1, h2]; grind
theorem req_sub {x y P L x' y' P' L' : Int} (h1 : Req x y P L) (h2 : Req x' y' P' L') : Req (x * y' - x' * y) (y * y') (P * L' - P' * L) (L * L') := by
  unfold Req at *
  have : (x * y' - x' * y) * (L * L') = (x * L) * (y' * L') - (x' * L') * (y * L) := by grind
  rw [this, h1, h2]; grind
theorem req_u {x y P L u : Int} (h1 : Req x y P L) : Req (x * u) y (P * u) L := by
  unfold Req at *
  have : x * u * L = (x * L) * u := by grind
  rw [this, h1]; grind
theorem req_self {x y : Int} : Req x y x y := rfl
theorem req_to {x y P L P' L' : Int} (h : Req x y P L) (e1 : P = P') (e2 : L = L') : Req x y P' L' := e1 ▸ e2 ▸ h
theorem req_k {x y P L k : Int} (h : Req x y P L) : Req x y (P * k) (L * k) := by
  unfold Req at *
  have : x * (L * k) = x * L * k := by grind
  rw [this, h]; grind
theorem sgn_req {x y P L : Int} (hy : 0 < y) (hL : 0 < L) (h : Req x y P L) : sgn x = sgn P := by
  rw [← sgn_mulp hL, ← sgn_mulp (i := P) hy, h]
theorem sgn_lw {u v : Int} (hv : 0 < v) : sgn (lwN u v) = sgn u := sgn_req (lwD_pos (by omega)) hv (req_lw hv)
theorem sg2_req {x1 x2 y1 y2 P Q L u : Int} (hx : 0 < x2) (hy : 0 < y2) (hL : 0 < L) (h1 : Req x1 x2 P L) (h2 : Req y1 y2 Q L) : sg2 (x1 * y2) (y1 * x2) u = sg2 P Q u := by
  have e1 : x1 * y2 * L = P * (x2 * y2) := by have := h1; unfold Req at this; grind
  have e2 : y1 * x2 * L = Q * (x2 * y2) := by have := h2; unfold Req at this; grind
  rw [← sg2_mul hL, e1, e2, sg2_mul (Int.mul_pos hx hy)]
theorem sg3_req {x1 x2 y1 y2 z1 z2 P L R M u v : Int} (hx : 0 < x2) (hz : 0 < z2) (hL : 0 < L) (hM : 0 < M) (h1 : Req x1 x2 P L) (h2 : Req z1 z2 R M) :
    sg3 (x1 * y2 * z2) (y1 * x2 * z2) u (z1 * x2 * y2) v = sg3 (P * (y2 * M)) (y1 * (L * M)) u (R * (L * y2)) v := by
  unfold Req at h1 h2
  have e1 : x1 * y2 * z2 * (L * M) = P * (y2 * M) * (x2 * z2) := by
    have : x1 * y2 * z2 * (L * M) = (x1 * L) * (y2 * z2 * M) := by grind
    rw [this, h1]; grind
  have e2 : y1 * x2 * z2 * (L * M) = y1 * (L * M) * (x2 * z2) := by grind
  have e3 : z1 * x2 * y2 * (L * M) = R * (L * y2) * (x2 * z2) := by
    have : z1 * x2 * y2 * (L * M) = (z1 * M) * (x2 * y2 * L) := by grind
    rw [this, h2]; grind
  rw [← sg3_mul (Int.mul_pos hL hM), e1, e2, e3, sg3_mul (Int.mul_pos hx hz)]
/-- the square of b times the root of u -/
abbrev sqN (b1 b2 u : Int) : Int := lwN (lwN (b1 * b1) (b2 * b2) * u) (lwD (b1 * b1) (b2 * b2))
abbrev sqD (b1 b2 u : Int) : Int := lwD (lwN (b1 * b1) (b2 * b2) * u) (lwD (b1 * b1) (b2 * b2))
theorem sq_req {b1 b2 u : Int} (hb : 0 < b2) : Req (sqN b1 b2 u) (sqD b1 b2 u) (b1 * b1 * u) (b2 * b2) := by
  have bb := Int.mul_pos hb hb
  have w0 : 0 < lwD (b1 * b1) (b2 * b2) := lwD_pos (by omega)
  exact req_tr w0 (req_lw w0) (req_u (req_lw bb))
theorem sqD_pos {b1 b2 u : Int} (hb : 0 < b2) : 0 < sqD b1 b2 u := by
  have bb := Int.mul_pos hb hb
  have w0 : 0 < lwD (b1 * b1) (b2 * b2) := lwD_pos (by omega)
  exact lwD_pos (by omega)
/-- the sign by the program's steps -/
abbrev dfN (a1 a2 b1 b2 u : Int) : Int := lwN (lwN (a1 * a1) (a2 * a2) * sqD b1 b2 u - sqN b1 b2 u * lwD (a1 * a1) (a2 * a2)) (lwD (a1 * a1) (a2 * a2) * sqD b1 b2 u)
theorem df_sgn {a1 a2 b1 b2 u : Int} (ha : 0 < a2) (hb : 0 < b2) : sgn (dfN a1 a2 b1 b2 u) = sgn (a1 * b2 * (a1 * b2) - b1 * a2 * (b1 * a2) * u) := by
  have aa := Int.mul_pos ha ha
  have bb := Int.mul_pos hb hb
  have t0 : 0 < lwD (a1 * a1) (a2 * a2) := lwD_pos (by omega)
  have s0 := sqD_pos (b1 := b1) (u := u) hb
  have ts := Int.mul_pos t0 s0
  rw [sgn_lw ts]
  have r := req_sub (req_lw (u := a1 * a1) aa) (sq_req (b1 := b1) (u := u) hb)
  rw [sgn_req ts (Int.mul_pos aa bb) r]
  congr 1
  grind
theorem sg2_df {a1 a2 b1 b2 u : Int} (ha : 0 < a2) (hb : 0 < b2) :
    sg2 (a1 * b2) (b1 * a2) u = if sgn a1 = 0 then sgn b1 else if sgn b1 = 0 ∨ sgn a1 = sgn b1 then sgn a1 else sgn a1 * sgn (dfN a1 a2 b1 b2 u) := by
  unfold sg2
  rw [sgn_mulp hb, sgn_mulp ha, df_sgn ha hb]
/-- what's alone, what's mixed -/
abbrev psN (a1 a2 b1 b2 u : Int) : Int := lwN (lwN (a1 * a1) (a2 * a2) * sqD b1 b2 u + sqN b1 b2 u * lwD (a1 * a1) (a2 * a2)) (lwD (a1 * a1) (a2 * a2) * sqD b1 b2 u)
abbrev psD (a1 a2 b1 b2 u : Int) : Int := lwD (lwN (a1 * a1) (a2 * a2) * sqD b1 b2 u + sqN b1 b2 u * lwD (a1 * a1) (a2 * a2)) (lwD (a1 * a1) (a2 * a2) * sqD b1 b2 u)
abbrev alN (a1 a2 b1 b2 u c1 c2 v : Int) : Int := lwN (psN a1 a2 b1 b2 u * sqD c1 c2 v - sqN c1 c2 v * psD a1 a2 b1 b2 u) (psD a1 a2 b1 b2 u * sqD c1 c2 v)
abbrev alD (a1 a2 b1 b2 u c1 c2 v : Int) : Int := lwD (psN a1 a2 b1 b2 u * sqD c1 c2 v - sqN c1 c2 v * psD a1 a2 b1 b2 u) (psD a1 a2 b1 b2 u * sqD c1 c2 v)
abbrev miN (a1 a2 b1 b2 : Int) : Int := lwN (2 * lwN (a1 * b1) (a2 * b2)) (1 * lwD (a1 * b1) (a2 * b2))
abbrev miD (a1 a2 b1 b2 : Int) : Int := lwD (2 * lwN (a1 * b1) (a2 * b2)) (1 * lwD (a1 * b1) (a2 * b2))
theorem psD_pos {a1 a2 b1 b2 u : Int} (ha : 0 < a2) (hb : 0 < b2) : 0 < psD a1 a2 b1 b2 u := by
  have aa := Int.mul_pos ha ha
  have t0 : 0 < lwD (a1 * a1) (a2 * a2) := lwD_pos (by omega)
  have := Int.mul_pos t0 (sqD_pos (b1 := b1) (u := u) hb)
  exact lwD_pos (by omega)
theorem alD_pos {a1 a2 b1 b2 u c1 c2 v : Int} (ha : 0 < a2) (hb : 0 < b2) (hc : 0 < c2) : 0 < alD a1 a2 b1 b2 u c1 c2 v := by
  have := Int.mul_pos (psD_pos (a1 := a1) (b1 := b1) (u := u) ha hb) (sqD_pos (b1 := c1) (u := v) hc)
  exact lwD_pos (by omega)
theorem miD_pos {a1 a2 b1 b2 : Int} (ha : 0 < a2) (hb : 0 < b2) : 0 < miD a1 a2 b1 b2 := by
  have ab := Int.mul_pos ha hb
  have m0 : 0 < lwD (a1 * b1) (a2 * b2) := lwD_pos (by omega)
  exact lwD_pos (by omega)
theorem sg3_df {a1 a2 b1 b2 u c1 c2 v : Int} (ha : 0 < a2) (hb : 0 < b2) (hc : 0 < c2) :
    sg3 (a1 * b2 * c2) (b1 * a2 * c2) u (c1 * a2 * b2) v = if sg2 (a1 * b2) (b1 * a2) u = 0 then sgn c1 else if sgn c1 = 0 ∨ sg2 (a1 * b2) (b1 * a2) u = sgn c1 then sg2 (a1 * b2) (b1 * a2) u else
      sg2 (a1 * b2) (b1 * a2) u * sg2 (alN a1 a2 b1 b2 u c1 c2 v * miD a1 a2 b1 b2) (miN a1 a2 b1 b2 * alD a1 a2 b1 b2 u c1 c2 v) u := by
  have aa := Int.mul_pos ha ha
  have bb := Int.mul_pos hb hb
  have cc := Int.mul_pos hc hc
  have ab := Int.mul_pos ha hb
  have t0 : 0 < lwD (a1 * a1) (a2 * a2) := lwD_pos (by omega)
  have s0 := sqD_pos (b1 := b1) (u := u) hb
  have k0 := sqD_pos (b1 := c1) (u := v) hc
  have p0 := psD_pos (a1 := a1) (b1 := b1) (u := u) ha hb
  have m0 : 0 < lwD (a1 * b1) (a2 * b2) := lwD_pos (by omega)
  have rP : Req (psN a1 a2 b1 b2 u) (psD a1 a2 b1 b2 u) _ _ := req_tr (Int.mul_pos t0 s0) (req_lw (Int.mul_pos t0 s0)) (req_add (req_lw (u := a1 * a1) aa) (sq_req (b1 := b1) (u := u) hb))
  have rA : Req (alN a1 a2 b1 b2 u c1 c2 v) (alD a1 a2 b1 b2 u c1 c2 v) _ _ := req_tr (Int.mul_pos p0 k0) (req_lw (Int.mul_pos p0 k0)) (req_sub rP (sq_req (b1 := c1) (u := v) hc))
  have rM : Req (miN a1 a2 b1 b2) (miD a1 a2 b1 b2) _ _ := req_tr (Int.mul_pos (by decide) m0) (req_lw (Int.mul_pos (by decide) m0)) (req_mul (req_self (x := 2) (y := 1)) (req_lw (u := a1 * b1) ab))
  have rM2 := req_k (k := a2 * b2 * (c2 * c2)) rM
  have L0 : 0 < a2 * a2 * (b2 * b2) * (c2 * c2) := Int.mul_pos (Int.mul_pos aa bb) cc
  have E := sg2_req (u := u) (alD_pos (a1 := a1) (b1 := b1) (u := u) (c1 := c1) (v := v) ha hb hc) (miD_pos (a1 := a1) (b1 := b1) ha hb) L0 rA (req_to rM2 rfl (by grind))
  rw [E]
  unfold sg3
  rw [sg2_mul hc, show c1 * a2 * b2 = c1 * (a2 * b2) by grind, sgn_mulp ab]
  congr 1
  congr 1
  congr 1
  congr 1 <;> grind
end Km
namespace K04
open PySem L2 Pw
def topS (i : Nat) : Stmt := PySem.Challenge.pw_pegwishes_k04_signs_and_which_is_less.main.body.getD i (.Pass ⟨0, 0, 0, 0⟩)
abbrev s_frac : Stmt := topS 6
abbrev N_frac : List Str := ["top", "bottom", "shared"]
theorem sc_frac : FnScope N_frac ["top", "bottom"] (defScope s_frac) := ⟨rfl, rfl, rfl, by decide +kernel, rfl, by decide +kernel, by decide +kernel⟩
abbrev s_plus : Stmt := topS 7
abbrev N_plus : List Str := ["one", "other"]
theorem sc_plus : FnScope N_plus ["one", "other"] (defScope s_plus) := ⟨rfl, rfl, rfl, by decide +kernel, rfl, by decide +kernel, by decide +kernel⟩
abbrev s_minus : Stmt := topS 8
abbrev N_minus : List Str := ["one", "other"]
theorem sc_minus : FnScope N_minus ["one", "other"] (defScope s_minus) := ⟨rfl, rfl, rfl, by decide +kernel, rfl, by decide +kernel, by decide +kernel⟩
abbrev s_times : Stmt := topS 9
abbrev N_times : List Str := ["one", "other"]
theorem sc_times : FnScope N_times ["one", "other"] (defScope s_times) := ⟨rfl, rfl, rfl, by decide +kernel, rfl, by decide +kernel, by decide +kernel⟩
abbrev s_sign_of : Stmt := topS 10
abbrev N_sign_of : List Str := ["one"]
theorem sc_sign_of : FnScope N_sign_of ["one"] (defScope s_sign_of) := ⟨rfl, rfl, rfl, by decide +kernel, rfl, by decide +kernel, by decide +kernel⟩
abbrev s__parted : Stmt := topS 13
abbrev N__parted : List Str := ["many", "side", "under", "step"]
theorem sc__parted : FnScope N__parted ["many"] (defScope s__parted) := ⟨rfl, rfl, rfl, by decide +kernel, rfl, by decide +kernel, by decide +kernel⟩
abbrev s_rooted : Stmt := topS 14
abbrev N_rooted : List Str := ["a", "b", "many", "side", "under", "share"]
theorem sc_rooted : FnScope N_rooted ["a", "b", "many"] (defScope s_rooted) := ⟨rfl, rfl, rfl, by decide +kernel, rfl, by decide +kernel, by decide +kernel⟩
abbrev s_root_sign : Stmt := topS 15
abbrev N_root_sign : List Str := ["root", "a", "b", "under"]
theorem sc_root_sign : FnScope N_root_sign ["root"] (defScope s_root_sign) := ⟨rfl, rfl, rfl, by decide +kernel, rfl, by decide +kernel, by decide +kernel⟩
abbrev s__sign : Stmt := topS 16
abbrev N__sign : List Str := ["a", "b", "under", "first", "second"]
theorem sc__sign : FnScope N__sign ["a", "b", "under"] (defScope s__sign) := ⟨rfl, rfl, rfl, by decide +kernel, rfl, by decide +kernel, by decide +kernel⟩
abbrev s__square : Stmt := topS 17
abbrev N__square : List Str := ["b", "under"]
theorem sc__square : FnScope N__square ["b", "under"] (defScope s__square) := ⟨rfl, rfl, rfl, by decide +kernel, rfl, by decide +kernel, by decide +kernel⟩
abbrev s_is_less : Stmt := topS 18
abbrev N_is_less : List Str := ["one", "other", "a", "c"]
theorem sc_is_less : FnScope N_is_less ["one", "other"] (defScope s_is_less) := ⟨rfl, rfl, rfl, by decide +kernel, rfl, by decide +kernel, by decide +kernel⟩
abbrev s__sign_of_three : Stmt := topS 19
abbrev N__sign_of_three : List Str := ["a", "b", "under", "c", "deeper", "first", "second", "alone", "mixed"]
theorem sc__sign_of_three : FnScope N__sign_of_three ["a", "b", "under", "c", "deeper"] (defScope s__sign_of_three) := ⟨rfl, rfl, rfl, by decide +kernel, rfl, by decide +kernel, by decide +kernel⟩
abbrev s__law_cell_at : Stmt := topS 21
abbrev N__law_cell_at : List Str := ["_law_script", "_law_k"]
theorem sc__law_cell_at : FnScope N__law_cell_at ["_law_script", "_law_k"] (defScope s__law_cell_at) := ⟨rfl, rfl, rfl, by decide +kernel, rfl, by decide +kernel, by decide +kernel⟩
abbrev s__law_box : Stmt := topS 22
abbrev N__law_box : List Str := ["_law_script", "_law_k", "_law_cell"]
theorem sc__law_box : FnScope N__law_box ["_law_script", "_law_k"] (defScope s__law_box) := ⟨rfl, rfl, rfl, by decide +kernel, rfl, by decide +kernel, by decide +kernel⟩
abbrev s__law_take : Stmt := topS 23
abbrev N__law_take : List Str := ["_law_box_here", "_law_size", "_law_found", "_law_once", "_law_twice"]
theorem sc__law_take : FnScope N__law_take ["_law_box_here", "_law_size"] (defScope s__law_take) := ⟨rfl, rfl, rfl, by decide +kernel, rfl, by decide +kernel, by decide +kernel⟩
abbrev s__law_same : Stmt := topS 24
abbrev N__law_same : List Str := ["_law_found", "_law_due", "_law_here", "_law_there"]
theorem sc__law_same : FnScope N__law_same ["_law_found", "_law_due"] (defScope s__law_same) := ⟨rfl, rfl, rfl, by decide +kernel, rfl, by decide +kernel, by decide +kernel⟩
abbrev s__law_of : Stmt := topS 25
abbrev N__law_of : List Str := ["_law_box_here", "_law_some_here"]
theorem sc__law_of : FnScope N__law_of ["_law_box_here", "_law_some_here"] (defScope s__law_of) := ⟨rfl, rfl, rfl, by decide +kernel, rfl, by decide +kernel, by decide +kernel⟩
abbrev s__law_frac : Stmt := topS 26
abbrev N__law_frac : List Str := ["_law_top", "_law_under", "_law_big", "_law_small", "_law_sign"]
theorem sc__law_frac : FnScope N__law_frac ["_law_top", "_law_under"] (defScope s__law_frac) := ⟨rfl, rfl, rfl, by decide +kernel, rfl, by decide +kernel, by decide +kernel⟩
abbrev s__law_draw : Stmt := topS 27
abbrev N__law_draw : List Str := ["_law_box_here", "_law_top"]
theorem sc__law_draw : FnScope N__law_draw ["_law_box_here", "_law_top"] (defScope s__law_draw) := ⟨rfl, rfl, rfl, by decide +kernel, rfl, by decide +kernel, by decide +kernel⟩
abbrev s__law_side : Stmt := topS 28
abbrev N__law_side : List Str := ["_law_many", "_law_found"]
theorem sc__law_side : FnScope N__law_side ["_law_many"] (defScope s__law_side) := ⟨rfl, rfl, rfl, by decide +kernel, rfl, by decide +kernel, by decide +kernel⟩
abbrev s__law_wide : Stmt := topS 29
abbrev N__law_wide : List Str := ["_law_main", "_law_many", "_law_a", "_law_b", "_law_under", "_law_whole", "_law_part"]
theorem sc__law_wide : FnScope N__law_wide ["_law_main", "_law_many"] (defScope s__law_wide) := ⟨rfl, rfl, rfl, by decide +kernel, rfl, by decide +kernel, by decide +kernel⟩
abbrev s__law_below : Stmt := topS 30
abbrev N__law_below : List Str := ["_law_first", "_law_second"]
theorem sc__law_below : FnScope N__law_below ["_law_first", "_law_second"] (defScope s__law_below) := ⟨rfl, rfl, rfl, by decide +kernel, rfl, by decide +kernel, by decide +kernel⟩
abbrev s__law_some : Stmt := topS 31
abbrev N__law_some : List Str := ["_law_box_here", "_law_unders", "_law_found", "_law_turn", "_law_a", "_law_b", "_law_many", "_law_first", "_law_under", "_law_near"]
theorem sc__law_some : FnScope N__law_some ["_law_box_here"] (defScope s__law_some) := ⟨rfl, rfl, rfl, by decide +kernel, rfl, by decide +kernel, by decide +kernel⟩
abbrev s__law_next_right : Stmt := topS 32
abbrev N__law_next_right : List Str := ["_law_under", "_law_first", "_law_step", "_law_p", "_law_q", "_law_turn", "_law_top", "_law_low", "_law_part", "_law_main", "_law_due", "_law_told", "_law_longer"]
theorem sc__law_next_right : FnScope N__law_next_right [] (defScope s__law_next_right) := ⟨rfl, rfl, rfl, by decide +kernel, rfl, by decide +kernel, by decide +kernel⟩
abbrev s_law : Stmt := topS 33
abbrev N_law : List Str := ["_law_script", "_law_k", "_law_box_here", "_law_some_here", "_law_first", "_law_due", "_law_second", "_law_known"]
theorem sc_law : FnScope N_law ["_law_script"] (defScope s_law) := ⟨rfl, rfl, rfl, by decide +kernel, rfl, by decide +kernel, by decide +kernel⟩
theorem bt_abs : bootBuiltins "abs" = some (.builtin "abs") := by decide +kernel
theorem bt_all : bootBuiltins "all" = some (.builtin "all") := by decide +kernel
theorem bt_bool : bootBuiltins "bool" = some (.type "bool") := by decide +kernel
theorem bt_int : bootBuiltins "int" = some (.type "int") := by decide +kernel
theorem bt_isinstance : bootBuiltins "isinstance" = some (.builtin "isinstance") := by decide +kernel
theorem bt_len : bootBuiltins "len" = some (.builtin "len") := by decide +kernel
theorem bt_list : bootBuiltins "list" = some (.type "list") := by decide +kernel
theorem bt_min : bootBuiltins "min" = some (.builtin "min") := by decide +kernel
theorem bt_range : bootBuiltins "range" = some (.type "range") := by decide +kernel
theorem bt_str : bootBuiltins "str" = some (.type "str") := by decide +kernel
theorem bt_tuple : bootBuiltins "tuple" = some (.type "tuple") := by decide +kernel
theorem bt_zip : bootBuiltins "zip" = some (.type "zip") := by decide +kernel
/-- where the program's own things stand -/
structure ZA where
  TN : Addr
  tR : Tok
structure Zx (K : Pw.Fg) (mg : Str → Option Value) (ζ : ZA) : Prop where
  z_abs : mg "abs" = none
  z_all : mg "all" = none
  z_bool : mg "bool" = none
  z_int : mg "int" = none
  z_isinstance : mg "isinstance" = none
  z_len : mg "len" = none
  z_list : mg "list" = none
  z_min : mg "min" = none
  z_range : mg "range" = none
  z_str : mg "str" = none
  z_tuple : mg "tuple" = none
  z_zip : mg "zip" = none
  z_gcd : mg "gcd" = some (.builtin "math.gcd")
  g_NOUGHT : mg "NOUGHT" = some (.ref ζ.TN)
  n_NOUGHT : ∀ H, At K H (.ref ζ.TN) (.tuple [.int 0, .int 1])
  g_ROOTS : mg "ROOTS" = some (.int 1000000 ζ.tR)
end K04
namespace K04
open PySem L2 Pw Km
section
local macro_rules | `(tactic| walk_at "sd") => `(tactic| first | rfl | assumption | exact Nat.le_of_ble_eq_true rfl | decide | omega | (walk_at "sd2"))
local macro_rules | `(tactic| walk_at "sd2") => `(tactic| first | exact cm_sm (by assumption) (by assumption) | exact cf_sm (by assumption) (by assumption) | ((with_reducible apply gs); (walk_at "sd")) | exact cm_fm7 | exact cm_if | exact cm_l (by omega) (by omega) | exact cm_r (by omega) (by omega) | exact cf_c (by omega) (by omega))
local macro_rules | `(tactic| walk_at "isi") => `(tactic| with_reducible first | exact kit_int | exact kit_bool | exact kit_tuple | exact kit_list | exact kit_str)
local macro_rules | `(tactic| walk_at "und") => `(tactic| with_reducible repeat (first | exact Und.nil | apply Und.cons))
local macro_rules | `(tactic| walk_at "op") => `(tactic| (first
  | with_reducible exact o_add | with_reducible exact o_minus | with_reducible exact o_lt | with_reducible exact o_gt | with_reducible exact o_le | with_reducible exact o_ge | with_reducible exact o_neg
  | with_reducible exact o_isN | with_reducible exact o_isntN | with_reducible exact o_isB | with_reducible exact o_isntB | with_reducible exact o_neS | with_reducible exact o_eqS
  | with_reducible exact o_abs | with_reducible exact o_intB | with_reducible exact o_min2 | with_reducible exact o_max2 | with_reducible exact o_lenL | with_reducible exact o_lenT | with_reducible exact o_lenC | with_reducible exact o_gcd
  | with_reducible apply o_ixT | with_reducible apply o_ixL | with_reducible apply o_ixM | with_reducible apply o_ixS | with_reducible apply o_lenM
  | with_reducible apply o_mul | with_reducible apply o_fdiv | with_reducible apply o_mod | with_reducible apply o_pow | with_reducible apply o_eq | with_reducible apply o_ne | with_reducible apply o_catT | with_reducible apply o_repr | with_reducible apply o_all) <;> walk_at "sd")
local macro_rules | `(tactic| walk_at "opn") => `(tactic| (first
  | with_reducible apply o_cat | with_reducible apply o_repI | with_reducible exact o_listT | with_reducible exact o_listL) <;> walk_at "sd")
local macro_rules | `(tactic| walk_at "ea") => `(tactic| first
  | with_reducible exact eva_nil
  | ((with_reducible apply eva_cons); (walk_at "ev"); (walk_at "ea")))
local macro_rules | `(tactic| walk_at "call") => `(tactic| fail)
local macro_rules | `(tactic| walk_at "evn") => `(tactic| first
  | ((with_reducible apply evn_lstU); (walk_at "ea"); (walk_at "und"); (walk_at "sd"))
  | ((with_reducible apply evn_op); (walk_at "ev"); (walk_at "ev"); (walk_at "opn"))
  | ((with_reducible apply evn_cb); (walk_at "ea"); (walk_at "opn"))
  | ((with_reducible apply evn_call); (walk_at "ea"); (walk_at "call")))
local macro_rules | `(tactic| walk_at "ev") => `(tactic| first
  | with_reducible exact ev_int | with_reducible exact ev_bl | with_reducible exact ev_non | with_reducible exact ev_str
  | ((with_reducible apply ev_var); rfl)
  | ((with_reducible apply ev_op); (walk_at "ev"); (walk_at "ev"); (walk_at "op"))
  | ((with_reducible apply ev_un); (walk_at "ev"); (walk_at "op"))
  | ((with_reducible apply ev_call); (walk_at "ea"); (walk_at "call"))
  | ((with_reducible apply ev_callD); (walk_at "ea"); (intro _ _; exact rxs_1); (walk_at "call"))
  | ((with_reducible apply ev_callK); (walk_at "ea"); rfl; (intro _ _ _ hh; first | exact rxs_swap2 hh | exact rxs_same1 hh); (walk_at "call"))
  | ((with_reducible apply ev_isi); (walk_at "ev"); (walk_at "isi"))
  | ((with_reducible apply ev_isi2); (walk_at "ev"); (walk_at "isi"); (walk_at "isi"))
  | ((with_reducible apply ev_cb); (walk_at "ea"); (walk_at "op"))
  | ((with_reducible apply ev_tupU); (walk_at "ea"); (walk_at "und"); (walk_at "sd"))
  | ((with_reducible apply ev_new); (walk_at "evn"))
  | ((with_reducible apply ev_slT); (walk_at "ev"); (walk_at "eo"); (walk_at "eo"))
  | ((with_reducible apply ev_andV); (walk_at "ev"); (intro _; walk_at "ev"); (intro _; rfl))
  | ((with_reducible apply ev_orV); (walk_at "ev"); (intro _; walk_at "ev"); (intro _; rfl))
  | ((with_reducible apply ev_notV); (walk_at "ev")))
local macro_rules | `(tactic| walk_at "eo") => `(tactic| first
  | with_reducible exact eo_none
  | ((with_reducible apply eo_some); (walk_at "ev")))
local macro_rules | `(tactic| walk_at "et") => `(tactic| first
  | ((with_reducible apply et_test); (walk_at "ev"))
  | ((with_reducible apply et_B); (walk_at "ev"))
  | ((with_reducible apply et_not); (walk_at "et"))
  | ((with_reducible apply et_and); (walk_at "et"); (intro _; walk_at "et"); (intro _; rfl))
  | ((with_reducible apply et_or); (walk_at "et"); (intro _; walk_at "et"); (intro _; rfl)))
local macro_rules | `(tactic| walk_at "w") => `(tactic| first
  | (with_reducible apply w_seq)
  | (with_reducible apply w_next)
  | ((with_reducible apply w_asg); (walk_at "ev"))
  | ((with_reducible apply w_ret); (walk_at "ev"))
  | ((with_reducible apply w_drop); (walk_at "ev"))
  | ((with_reducible apply w_par); (walk_at "ea"))
  | ((with_reducible apply w_tup2); (walk_at "ev"))
  | ((with_reducible apply w_tup3); (walk_at "ev"))
  | ((with_reducible apply w_setI); (walk_at "ev"); (walk_at "ev"); (walk_at "ev"); (walk_at "sd"); (walk_at "sd"))
  | ((with_reducible apply w_if); (walk_at "et")))

variable {P : Program} {w : World} {K : Pw.Fg} {mg : Str → Option Value} {base : Heap} {f : Addr} {fd : FuncData} {ζ : ZA}
/-! ### sign_of, floor_of -/
inductive R_sign : Gr
  | mk {a b s} : R_sign [.d (.tuple [.int a, .int b])] s (.d (.int (if 0 < a then 1 else if a < 0 then -1 else 0))) s
theorem ok_sign (G : Fun K "sign_of" "sign_of" s_sign_of f fd) : FnOk P w K mg base CX0 1 f fd ["one"] (spF K R_sign) := by
  refine G.ok sc_sign_of (spF_len fun xs s x s' h => by cases h; rfl) (fun cdv A outer s H vs Q E hr ⟨M, xs, st, x, st', h, So, rx, q⟩ => ?_)
  cases h with
  | @mk a b =>
  refine ⟨_, (pss_cons (ps_if (pt_cmpR op_gtA (pe_ix (ixk (K := K)) (pv 0) (pe_int) (fun _ _ => rfl)) (pe_int) (nomark _)) (pss_one (ps_ret (pe_int))) pss_nil)
      (pss_cons (ps_if (pt_cmpR op_ltA (pe_ix (ixk (K := K)) (pv 0) (pe_int) (fun _ _ => rfl)) (pe_int) (nomark _)) (pss_one (ps_ret (pe_un un_negA (pe_int)))) pss_nil)
      (pss_one (ps_ret (pe_int))))), ?_⟩
  refine w_run So rx ?_
  try simp only [nox_K, cx_K, List.map_cons, List.map_nil]
  have q' := okr_0 q So.len
  iterate 2 (walk_at "w")
  · intro c
    rw [if_pos (of_decide_eq_true c)] at q'
    walk_at "w"
    exact q'
  · intro c
    rw [if_neg (of_decide_eq_false c)] at q'
    iterate 3 (walk_at "w")
    · intro c
      rw [if_pos (of_decide_eq_true c)] at q'
      walk_at "w"
      exact q'
    · intro c
      rw [if_neg (of_decide_eq_false c)] at q'
      iterate 2 (walk_at "w")
      exact q'
/-! ### is_number -/
/-! ### frac -/
abbrev q2 (a b : Int) : PyData := .tuple [.int a, .int b]
abbrev lw (u v : Int) : PyData := .tuple [.int (lwN u v), .int (lwD u v)]
theorem sh2 {a b : Int} : SeqAt.shaped (q2 a b) = true := by rfl
theorem shI {a : Int} : SeqAt.shaped (.int a) = true := by rfl
inductive R_frac : Gr
  | mk {u v s} (h : v ≠ 0) (hu : Sm 4000 u) (hv : Sm 4000 v) : R_frac [.d (.int u), .d (.int v)] s (.d (lw u v)) s
theorem ok_frac (Z : Zx K mg ζ) (G : FunD K "frac" "frac" (defArgs s_frac) (defBody s_frac) (defScope s_frac) [.int 1] [] f fd) : FnOk P w K mg base CX0 1 f fd ["top", "bottom"] (spF K R_frac) := by
  refine G.ok sc_frac (spF_len fun xs s x s' h => by cases h; rfl) (fun cdv A outer s H vs Q E hr ⟨M, xs, st, x, st', h, So, rx, q⟩ => ?_)
  cases h with
  | @mk u v _ h hu hv =>
  refine ⟨_, (pss_cons (ps_if (pt_cmpR (opk_eq (K := K) hr.units) (pv 1) (pe_int) (nomark _)) (pss_one ps_never) pss_nil)
      (pss_cons (ps_set (i := 2) sc_frac.nd rfl (.inl rfl) (pe_callBfun cr_gcd (by rfl) Z.z_gcd (pa_cons (pv 0) (pa_cons (pv 1) pa_nil))))
      (pss_cons (ps_if (pt_cmpR op_ltA (pv 1) (pe_int) (nomark _)) (pss_one (ps_set (i := 2) sc_frac.nd rfl (.inl rfl) (pe_un un_negA (pv 2)))) pss_nil)
      (pss_one (ps_ret (pe_tup (pa_cons (pe_op op_fdivA (pv 0) (pv 2)) (pa_cons (pe_op op_fdivA (pv 1) (pv 2)) pa_nil)))))))), ?_⟩
  refine w_run So rx ?_
  try simp only [nox_K, cx_K, List.map_cons, List.map_nil]
  have q' := okr_0 q So.len
  have hg : Sm 4000 ((Nat.gcd u.natAbs v.natAbs : Nat) : Int) := hv.le (by
    rw [Int.natAbs_natCast]
    exact Nat.le_of_dvd (by omega) (Nat.gcd_dvd_right _ _))
  have g0 := gcd_pos (u := u) h
  iterate 2 (walk_at "w")
  · intro c
    exact absurd (beq_iff_eq.mp c) h
  · intro _
    iterate 5 (walk_at "w")
    · intro c
      have hc : v < 0 := of_decide_eq_true c
      have e1 := frac_N (u := u) h
      have e2 := frac_D (u := u) h
      rw [if_pos hc] at e1 e2
      have c1 : ∀ i, CF i (-((Nat.gcd u.natAbs v.natAbs : Nat) : Int)) := fun i => cf_sm (by omega) hg.neg
      have c2 := c1 u
      have c3 := c1 v
      iterate 2 (walk_at "w")
      exact q'.is (by rw [e1, e2])
    · intro c
      have hc : ¬ v < 0 := of_decide_eq_false c
      have e1 := frac_N (u := u) h
      have e2 := frac_D (u := u) h
      rw [if_neg hc] at e1 e2
      have c1 : ∀ i, CF i ((Nat.gcd u.natAbs v.natAbs : Nat) : Int) := fun i => cf_sm (by omega) hg
      have c2 := c1 u
      have c3 := c1 v
      iterate 2 (walk_at "w")
      exact q'.is (by rw [e1, e2])
/-! ### plus, minus, times, over -/
inductive R_plus : Gr
  | mk {a b c d s} (hb : b ≠ 0) (hd : d ≠ 0) (ha' : Sm 1000 a) (hb' : Sm 1000 b) (hc' : Sm 1000 c) (hd' : Sm 1000 d) : R_plus [.d (q2 a b), .d (q2 c d)] s (.d (lw (a * d + c * b) (b * d))) s
inductive R_minus : Gr
  | mk {a b c d s} (hb : b ≠ 0) (hd : d ≠ 0) (ha' : Sm 1000 a) (hb' : Sm 1000 b) (hc' : Sm 1000 c) (hd' : Sm 1000 d) : R_minus [.d (q2 a b), .d (q2 c d)] s (.d (lw (a * d - c * b) (b * d))) s
inductive R_times : Gr
  | mk {a b c d s} (hb : b ≠ 0) (hd : d ≠ 0) (ha' : Sm 1000 a) (hb' : Sm 1000 b) (hc' : Sm 1000 c) (hd' : Sm 1000 d) : R_times [.d (q2 a b), .d (q2 c d)] s (.d (lw (a * c) (b * d))) s
theorem fr_mk {n m : Nat} {u v : Int} {s : Sto} (hu : Sm n u) (hv : Sm m v) (h : v ≠ 0) (hn : n ≤ 4000 := by decide) (hm : m ≤ 4000 := by decide) : R_frac [.d (.int u), .d (.int v)] s (.d (lw u v)) s := .mk h (hu.mono hn) (hv.mono hm)
section
local macro_rules | `(tactic| walk_at "call") => `(tactic| exact fr_mk (by assumption) (by assumption) (by assumption))
theorem ok_plus (c_frac : Cb P w K mg base "frac" 1 [] (spF K R_frac)) (G : Fun K "plus" "plus" s_plus f fd) : FnOk P w K mg base CX0 2 f fd ["one", "other"] (spF K R_plus) := by
  refine G.ok sc_plus (spF_len fun xs s x s' h => by cases h; rfl) (fun cdv A outer s H vs Q E hr ⟨M, xs, st, x, st', h, So, rx, q⟩ => ?_)
  cases h with
  | @mk a b c d _ hb hd ha' hb' hc' hd' =>
  refine ⟨_, (pss_one (ps_ret (pe_cb c_frac (hr.mono (by decide)) (by rfl) (pa_cons (pe_op (opk_plus (K := K)) (pe_op op_times (pe_ix (ixk (K := K)) (pv 0) (pe_int) (fun _ _ => rfl)) (pe_ix (ixk (K := K)) (pv 1) (pe_int) (fun _ _ => rfl))) (pe_op op_times (pe_ix (ixk (K := K)) (pv 1) (pe_int) (fun _ _ => rfl)) (pe_ix (ixk (K := K)) (pv 0) (pe_int) (fun _ _ => rfl)))) (pa_cons (pe_op op_times (pe_ix (ixk (K := K)) (pv 0) (pe_int) (fun _ _ => rfl)) (pe_ix (ixk (K := K)) (pv 1) (pe_int) (fun _ _ => rfl))) pa_nil))))), ?_⟩
  refine w_run So rx ?_
  try simp only [nox_K, cx_K, List.map_cons, List.map_nil]
  have q' := okr_0 q So.len
  have z1 := (ha'.mul hd').add (hc'.mul hb')
  have z2 := hb'.mul hd'
  have z3 : b * d ≠ 0 := Int.mul_ne_zero hb hd
  walk_at "w"
  exact q'
theorem ok_minus (c_frac : Cb P w K mg base "frac" 1 [] (spF K R_frac)) (G : Fun K "minus" "minus" s_minus f fd) : FnOk P w K mg base CX0 2 f fd ["one", "other"] (spF K R_minus) := by
  refine G.ok sc_minus (spF_len fun xs s x s' h => by cases h; rfl) (fun cdv A outer s H vs Q E hr ⟨M, xs, st, x, st', h, So, rx, q⟩ => ?_)
  cases h with
  | @mk a b c d _ hb hd ha' hb' hc' hd' =>
  refine ⟨_, (pss_one (ps_ret (pe_cb c_frac (hr.mono (by decide)) (by rfl) (pa_cons (pe_op op_minus (pe_op op_times (pe_ix (ixk (K := K)) (pv 0) (pe_int) (fun _ _ => rfl)) (pe_ix (ixk (K := K)) (pv 1) (pe_int) (fun _ _ => rfl))) (pe_op op_times (pe_ix (ixk (K := K)) (pv 1) (pe_int) (fun _ _ => rfl)) (pe_ix (ixk (K := K)) (pv 0) (pe_int) (fun _ _ => rfl)))) (pa_cons (pe_op op_times (pe_ix (ixk (K := K)) (pv 0) (pe_int) (fun _ _ => rfl)) (pe_ix (ixk (K := K)) (pv 1) (pe_int) (fun _ _ => rfl))) pa_nil))))), ?_⟩
  refine w_run So rx ?_
  try simp only [nox_K, cx_K, List.map_cons, List.map_nil]
  have q' := okr_0 q So.len
  have z1 := (ha'.mul hd').sub (hc'.mul hb')
  have z2 := hb'.mul hd'
  have z3 : b * d ≠ 0 := Int.mul_ne_zero hb hd
  walk_at "w"
  exact q'
theorem ok_times (c_frac : Cb P w K mg base "frac" 1 [] (spF K R_frac)) (G : Fun K "times" "times" s_times f fd) : FnOk P w K mg base CX0 2 f fd ["one", "other"] (spF K R_times) := by
  refine G.ok sc_times (spF_len fun xs s x s' h => by cases h; rfl) (fun cdv A outer s H vs Q E hr ⟨M, xs, st, x, st', h, So, rx, q⟩ => ?_)
  cases h with
  | @mk a b c d _ hb hd ha' hb' hc' hd' =>
  refine ⟨_, (pss_one (ps_ret (pe_cb c_frac (hr.mono (by decide)) (by rfl) (pa_cons (pe_op op_times (pe_ix (ixk (K := K)) (pv 0) (pe_int) (fun _ _ => rfl)) (pe_ix (ixk (K := K)) (pv 1) (pe_int) (fun _ _ => rfl))) (pa_cons (pe_op op_times (pe_ix (ixk (K := K)) (pv 0) (pe_int) (fun _ _ => rfl)) (pe_ix (ixk (K := K)) (pv 1) (pe_int) (fun _ _ => rfl))) pa_nil))))), ?_⟩
  refine w_run So rx ?_
  try simp only [nox_K, cx_K, List.map_cons, List.map_nil]
  have q' := okr_0 q So.len
  have z1 := ha'.mul hc'
  have z2 := hb'.mul hd'
  have z3 : b * d ≠ 0 := Int.mul_ne_zero hb hd
  walk_at "w"
  exact q'
end
end
end K04
namespace K04
open PySem L2 Pw Km
section
local macro_rules | `(tactic| walk_at "sd") => `(tactic| first | rfl | assumption | exact Nat.le_of_ble_eq_true rfl | decide | omega | (walk_at "sd2"))
local macro_rules | `(tactic| walk_at "sd2") => `(tactic| first | exact cm_sm (by assumption) (by assumption) | exact cf_sm (by assumption) (by assumption) | ((with_reducible apply gs); (walk_at "sd")) | exact cm_fm7 | exact cm_if | exact cm_l (by omega) (by omega) | exact cm_r (by omega) (by omega) | exact cf_c (by omega) (by omega))
local macro_rules | `(tactic| walk_at "isi") => `(tactic| with_reducible first | exact kit_int | exact kit_bool | exact kit_tuple | exact kit_list | exact kit_str)
local macro_rules | `(tactic| walk_at "und") => `(tactic| with_reducible repeat (first | exact Und.nil | apply Und.cons))
local macro_rules | `(tactic| walk_at "op") => `(tactic| (first
  | with_reducible exact o_add | with_reducible exact o_minus | with_reducible exact o_lt | with_reducible exact o_gt | with_reducible exact o_le | with_reducible exact o_ge | with_reducible exact o_neg
  | with_reducible exact o_isN | with_reducible exact o_isntN | with_reducible exact o_isB | with_reducible exact o_isntB | with_reducible exact o_neS | with_reducible exact o_eqS
  | with_reducible exact o_abs | with_reducible exact o_intB | with_reducible exact o_min2 | with_reducible exact o_max2 | with_reducible exact o_lenL | with_reducible exact o_lenT | with_reducible exact o_lenC | with_reducible exact o_gcd
  | with_reducible apply o_ixT | with_reducible apply o_ixL | with_reducible apply o_ixM | with_reducible apply o_ixS | with_reducible apply o_lenM
  | with_reducible apply o_mul | with_reducible apply o_fdiv | with_reducible apply o_mod | with_reducible apply o_pow | with_reducible apply o_eq | with_reducible apply o_ne | with_reducible apply o_catT | with_reducible apply o_repr | with_reducible apply o_all) <;> walk_at "sd")
local macro_rules | `(tactic| walk_at "opn") => `(tactic| (first
  | with_reducible apply o_cat | with_reducible apply o_repI | with_reducible exact o_listT | with_reducible exact o_listL) <;> walk_at "sd")
local macro_rules | `(tactic| walk_at "ea") => `(tactic| first
  | with_reducible exact eva_nil
  | ((with_reducible apply eva_cons); (walk_at "ev"); (walk_at "ea")))
local macro_rules | `(tactic| walk_at "call") => `(tactic| fail)
local macro_rules | `(tactic| walk_at "evn") => `(tactic| first
  | ((with_reducible apply evn_lstU); (walk_at "ea"); (walk_at "und"); (walk_at "sd"))
  | ((with_reducible apply evn_op); (walk_at "ev"); (walk_at "ev"); (walk_at "opn"))
  | ((with_reducible apply evn_cb); (walk_at "ea"); (walk_at "opn"))
  | ((with_reducible apply evn_call); (walk_at "ea"); (walk_at "call")))
local macro_rules | `(tactic| walk_at "ev") => `(tactic| first
  | with_reducible exact ev_int | with_reducible exact ev_bl | with_reducible exact ev_non | with_reducible exact ev_str
  | ((with_reducible apply ev_var); rfl)
  | ((with_reducible apply ev_op); (walk_at "ev"); (walk_at "ev"); (walk_at "op"))
  | ((with_reducible apply ev_un); (walk_at "ev"); (walk_at "op"))
  | ((with_reducible apply ev_call); (walk_at "ea"); (walk_at "call"))
  | ((with_reducible apply ev_callD); (walk_at "ea"); (intro _ _; exact rxs_1); (walk_at "call"))
  | ((with_reducible apply ev_callK); (walk_at "ea"); rfl; (intro _ _ _ hh; first | exact rxs_swap2 hh | exact rxs_same1 hh); (walk_at "call"))
  | ((with_reducible apply ev_isi); (walk_at "ev"); (walk_at "isi"))
  | ((with_reducible apply ev_isi2); (walk_at "ev"); (walk_at "isi"); (walk_at "isi"))
  | ((with_reducible apply ev_cb); (walk_at "ea"); (walk_at "op"))
  | ((with_reducible apply ev_tupU); (walk_at "ea"); (walk_at "und"); (walk_at "sd"))
  | ((with_reducible apply ev_new); (walk_at "evn"))
  | ((with_reducible apply ev_slT); (walk_at "ev"); (walk_at "eo"); (walk_at "eo"))
  | ((with_reducible apply ev_andV); (walk_at "ev"); (intro _; walk_at "ev"); (intro _; rfl))
  | ((with_reducible apply ev_orV); (walk_at "ev"); (intro _; walk_at "ev"); (intro _; rfl))
  | ((with_reducible apply ev_notV); (walk_at "ev")))
local macro_rules | `(tactic| walk_at "eo") => `(tactic| first
  | with_reducible exact eo_none
  | ((with_reducible apply eo_some); (walk_at "ev")))
local macro_rules | `(tactic| walk_at "et") => `(tactic| first
  | ((with_reducible apply et_test); (walk_at "ev"))
  | ((with_reducible apply et_B); (walk_at "ev"))
  | ((with_reducible apply et_not); (walk_at "et"))
  | ((with_reducible apply et_and); (walk_at "et"); (intro _; walk_at "et"); (intro _; rfl))
  | ((with_reducible apply et_or); (walk_at "et"); (intro _; walk_at "et"); (intro _; rfl)))
local macro_rules | `(tactic| walk_at "w") => `(tactic| first
  | (with_reducible apply w_seq)
  | (with_reducible apply w_next)
  | ((with_reducible apply w_asg); (walk_at "ev"))
  | ((with_reducible apply w_ret); (walk_at "ev"))
  | ((with_reducible apply w_drop); (walk_at "ev"))
  | ((with_reducible apply w_par); (walk_at "ea"))
  | ((with_reducible apply w_tup2); (walk_at "ev"))
  | ((with_reducible apply w_tup3); (walk_at "ev"))
  | ((with_reducible apply w_setI); (walk_at "ev"); (walk_at "ev"); (walk_at "ev"); (walk_at "sd"); (walk_at "sd"))
  | ((with_reducible apply w_if); (walk_at "et")))

variable {P : Program} {w : World} {K : Pw.Fg} {mg : Str → Option Value} {base : Heap} {f : Addr} {fd : FuncData} {ζ : ZA}
/-! ### cells, the box, a draw -/
inductive R_cell : Gr
  | mk {ns k s} (hk : 0 ≤ k) : R_cell [.scr ns, .d (.int k)] s (.d (.int (cell ns k))) s
theorem ok_cell (Z : Zx K mg ζ) (G : Fun K "_law_cell_at" "_law_cell_at" s__law_cell_at f fd) : FnOk P w K mg base CX0 1 f fd ["_law_script", "_law_k"] (spF K R_cell) := by
  refine G.ok sc__law_cell_at (spF_len fun xs s x s' h => by cases h; rfl) (fun cdv A outer s H vs Q E hr ⟨M, xs, st, x, st', h, So, rx, q⟩ => ?_)
  cases h with
  | @mk ns k _ hk =>
  refine ⟨_, (pss_cons (ps_if (pt_cmpR op_ltA (pv 1) (pe_callB (cbk_len (K := K)) (by rfl) Z.z_len bt_len (pa_cons (pv 0) pa_nil)) (nomark _)) (pss_one (ps_ret (pe_ix (ixk (K := K)) (pv 0) (pv 1) (fun _ _ => rfl)))) pss_nil)
      (pss_one (ps_ret (pe_int)))), ?_⟩
  refine w_run So rx ?_
  try simp only [nox_K, cx_K, List.map_cons, List.map_nil]
  have q' := okr_0 q So.len
  iterate 2 (walk_at "w")
  · intro c
    have hc := of_decide_eq_true c
    have e := atI_cell hk hc
    walk_at "w"
    exact q'
  · intro c
    have hc := of_decide_eq_false c
    have e : cell ns k = 0 := if_neg hc
    iterate 2 (walk_at "w")
    exact q'.is (by rw [e])
inductive R_box : GrN
  | mk {ns k s} (hk : 0 ≤ k) : R_box [.scr ns, .d (.int k)] s (bxl (mkB (cell ns k) k)) s
theorem ok_box (Z : Zx K mg ζ) (c__law_cell_at : Cb P w K mg base "_law_cell_at" 1 [] (spF K R_cell)) (G : Fun K "_law_box" "_law_box" s__law_box f fd) : FnOk P w K mg base CX0 2 f fd ["_law_script", "_law_k"] (spN K R_box) := by
  refine G.ok sc__law_box (spN_len fun xs s x s' h => by cases h; rfl) (fun cdv A outer s H vs Q E hr ⟨M, xs, st, x, st', h, So, rx, q⟩ => ?_)
  cases h with
  | @mk ns k _ hk =>
  refine ⟨_, (pss_cons (ps_set (i := 2) sc__law_box.nd rfl (.inl rfl) (pe_cb c__law_cell_at (hr.mono (by decide)) (by rfl) (pa_cons (pv 0) (pa_cons (pv 1) pa_nil))))
      (pss_one (ps_ret (pe_lst (pa_cons (pe_op op_times (pe_callB cb_abs (by rfl) Z.z_abs bt_abs (pa_cons (pv 2) pa_nil)) (pe_callTy cb_int (by rfl) Z.z_int bt_int (pa_cons (pe_cmpR op_geA (pe_callB cb_abs (by rfl) Z.z_abs bt_abs (pa_cons (pv 2) pa_nil)) (pe_op op_powA (pe_int) (pe_int)) (nomark _)) pa_nil))) (pa_cons (pe_op (opk_plus (K := K)) (pe_op (opk_plus (K := K)) (pe_op op_modA (pv 2) (pe_int)) (pe_op op_times (pe_int) (pv 1))) (pe_int)) (pa_cons (pe_int) pa_nil))))))), ?_⟩
  refine w_run So rx ?_
  try simp only [nox_K, cx_K, List.map_cons, List.map_nil]
  walk_at "w"
  with_reducible apply w_asg
  · with_reducible apply ev_call
    · walk_at "ea"
    · exact .mk hk
  · have hp : CPow 10 18 := ⟨by decide, by decide, by decide⟩
    with_reducible apply w_retN
    · walk_at "evn"
    · exact So.len
    · exact q
inductive R_take : Gr
  | mk {l b n c s} (hl : s[l]? = some (bxl b)) (hn : 0 < n) (hn2 : n < 2 ^ 29) (hc : Bk c b) (hc2 : c ≤ 2 ^ 40) : R_take [.loc l, .d (.int n)] s (.d (.int (tkR b n))) (s.set l (bxl (tkB b n)))
theorem ok_take (G : Fun K "_law_take" "_law_take" s__law_take f fd) : FnOk P w K mg base CX0 1 f fd ["_law_box_here", "_law_size"] (spF K R_take) := by
  refine G.ok sc__law_take (spF_len fun xs s x s' h => by cases h; rfl) (fun cdv A outer s H vs Q E hr ⟨M, xs, st, x, st', h, So, rx, q⟩ => ?_)
  cases h with
  | @mk l b n c _ hl hn hn2 hc hc2 =>
  refine ⟨_, (pss_cons (ps_if (pt_cmpR op_gtA (pe_ix (ixk (K := K)) (pv 0) (pe_int) (fun _ _ => rfl)) (pe_int) (nomark _)) (pss_cons (ps_set (i := 2) sc__law_take.nd rfl (.inl rfl) (pe_op op_modA (pe_ix (ixk (K := K)) (pv 0) (pe_int) (fun _ _ => rfl)) (pv 1)))
      (pss_cons (ps_asg (pe_op op_fdivA (pe_ix (ixk (K := K)) (pv 0) (pe_int) (fun _ _ => rfl)) (pv 1)) (pg_sub (pv 0) (pe_int) set_list))
      (pss_one (ps_ret (pv 2))))) pss_nil)
      (pss_cons (ps_asg (pe_op (opk_plus (K := K)) (pe_ix (ixk (K := K)) (pv 0) (pe_int) (fun _ _ => rfl)) (pe_int)) (pg_sub (pv 0) (pe_int) set_list))
      (pss_cons (ps_set (i := 3) sc__law_take.nd rfl (.inl rfl) (pe_op op_modA (pe_op op_times (pe_op (opk_plus (K := K)) (pe_ix (ixk (K := K)) (pv 0) (pe_int) (fun _ _ => rfl)) (pe_op op_times (pe_int) (pe_ix (ixk (K := K)) (pv 0) (pe_int) (fun _ _ => rfl)))) (pe_op (opk_plus (K := K)) (pe_int) (pe_ix (ixk (K := K)) (pv 0) (pe_int) (fun _ _ => rfl)))) (pe_int)))
      (pss_cons (ps_set (i := 4) sc__law_take.nd rfl (.inl rfl) (pe_op op_modA (pe_op op_times (pe_op (opk_plus (K := K)) (pe_op (opk_plus (K := K)) (pv 3) (pe_ix (ixk (K := K)) (pv 0) (pe_int) (fun _ _ => rfl))) (pe_op op_fdivA (pe_ix (ixk (K := K)) (pv 0) (pe_int) (fun _ _ => rfl)) (pe_int))) (pe_op (opk_plus (K := K)) (pe_op op_modA (pv 3) (pe_int)) (pe_int))) (pe_int)))
      (pss_one (ps_ret (pe_op op_modA (pe_op op_fdivA (pe_op op_modA (pe_op (opk_plus (K := K)) (pe_op op_times (pv 4) (pe_int)) (pv 3)) (pe_int)) (pe_int)) (pv 1)))))))), ?_⟩
  refine w_run So rx ?_
  try simp only [nox_K, cx_K, List.map_cons, List.map_nil]
  have q' := okr_0 q (by rw [List.length_set]; exact So.len)
  obtain ⟨z0, z1⟩ := hc
  unfold tkR tkB at q'
  iterate 2 (walk_at "w")
  · intro c
    rw [if_pos (of_decide_eq_true c), if_pos (of_decide_eq_true c)] at q'
    iterate 5 (walk_at "w")
    exact q'
  · intro c
    rw [if_neg (of_decide_eq_false c), if_neg (of_decide_eq_false c)] at q'
    iterate 8 (walk_at "w")
    exact q'
inductive R_of : Gr
  | mk {l b ds c s d} (hl : s[l]? = some (bxl b)) (hz : 0 < ds.length) (hz2 : ds.length ≤ 1000000) (hc : Bk c b) (hc2 : c ≤ 2 ^ 40) (hd : ds[(tkR b (ds.length : Nat)).toNat]? = some d) : R_of [.loc l, .d (.list ds)] s (.d d) (s.set l (bxl (tkB b (ds.length : Nat))))
theorem ok_of (Z : Zx K mg ζ) (c__law_take : Cb P w K mg base "_law_take" 1 [] (spF K R_take)) (G : Fun K "_law_of" "_law_of" s__law_of f fd) : FnOk P w K mg base CX0 2 f fd ["_law_box_here", "_law_some_here"] (spF K R_of) := by
  refine G.ok sc__law_of (spF_len fun xs s x s' h => by cases h; rfl) (fun cdv A outer s H vs Q E hr ⟨M, xs, st, x, st', h, So, rx, q⟩ => ?_)
  cases h with
  | @mk l b ds c _ d hl hz hz2 hc hc2 hd =>
  refine ⟨_, (pss_one (ps_ret (pe_ix (ixk (K := K)) (pv 1) (pe_cb c__law_take (hr.mono (by decide)) (by rfl) (pa_cons (pv 0) (pa_cons (pe_callB (cbk_len (K := K)) (by rfl) Z.z_len bt_len (pa_cons (pv 1) pa_nil)) pa_nil))) (fun _ _ => rfl)))), ?_⟩
  refine w_run So rx ?_
  try simp only [nox_K, cx_K, List.map_cons, List.map_nil]
  have q' := okr_0 q (by rw [List.length_set]; exact So.len)
  have hr2 := tk_r (b := b) (n := (ds.length : Nat)) (by omega)
  have e : atI ds (tkR b (ds.length : Nat)) = some d := by
    have e := atI_nat hd
    rw [Int.toNat_of_nonneg hr2.1] at e
    exact e
  with_reducible apply w_ret
  · with_reducible apply ev_op
    · walk_at "ev"
    · with_reducible apply ev_call
      · walk_at "ea"
      · exact .mk hl (by omega) (by omega) hc hc2
    · walk_at "op"
  · exact q'
end
end K04
namespace K04
open PySem L2 Pw Km
section
local macro_rules | `(tactic| walk_at "sd") => `(tactic| first | rfl | assumption | exact Nat.le_of_ble_eq_true rfl | decide | omega | (walk_at "sd2"))
local macro_rules | `(tactic| walk_at "sd2") => `(tactic| first | exact cm_sm (by assumption) (by assumption) | exact cf_sm (by assumption) (by assumption) | ((with_reducible apply gs); (walk_at "sd")) | exact cm_fm7 | exact cm_if | exact cm_l (by omega) (by omega) | exact cm_r (by omega) (by omega) | exact cf_c (by omega) (by omega))
local macro_rules | `(tactic| walk_at "isi") => `(tactic| with_reducible first | exact kit_int | exact kit_bool | exact kit_tuple | exact kit_list | exact kit_str)
local macro_rules | `(tactic| walk_at "und") => `(tactic| with_reducible repeat (first | exact Und.nil | apply Und.cons))
local macro_rules | `(tactic| walk_at "op") => `(tactic| (first
  | with_reducible exact o_add | with_reducible exact o_minus | with_reducible exact o_lt | with_reducible exact o_gt | with_reducible exact o_le | with_reducible exact o_ge | with_reducible exact o_neg
  | with_reducible exact o_isN | with_reducible exact o_isntN | with_reducible exact o_isB | with_reducible exact o_isntB | with_reducible exact o_neS | with_reducible exact o_eqS
  | with_reducible exact o_abs | with_reducible exact o_intB | with_reducible exact o_min2 | with_reducible exact o_max2 | with_reducible exact o_lenL | with_reducible exact o_lenT | with_reducible exact o_lenC | with_reducible exact o_gcd
  | with_reducible apply o_ixT | with_reducible apply o_ixL | with_reducible apply o_ixM | with_reducible apply o_ixS | with_reducible apply o_lenM
  | with_reducible apply o_mul | with_reducible apply o_fdiv | with_reducible apply o_mod | with_reducible apply o_pow | with_reducible apply o_eq | with_reducible apply o_ne | with_reducible apply o_catT | with_reducible apply o_repr | with_reducible apply o_all) <;> walk_at "sd")
local macro_rules | `(tactic| walk_at "opn") => `(tactic| (first
  | with_reducible apply o_cat | with_reducible apply o_repI | with_reducible exact o_listT | with_reducible exact o_listL) <;> walk_at "sd")
local macro_rules | `(tactic| walk_at "ea") => `(tactic| first
  | with_reducible exact eva_nil
  | ((with_reducible apply eva_cons); (walk_at "ev"); (walk_at "ea")))
local macro_rules | `(tactic| walk_at "call") => `(tactic| fail)
local macro_rules | `(tactic| walk_at "evn") => `(tactic| first
  | ((with_reducible apply evn_lstU); (walk_at "ea"); (walk_at "und"); (walk_at "sd"))
  | ((with_reducible apply evn_op); (walk_at "ev"); (walk_at "ev"); (walk_at "opn"))
  | ((with_reducible apply evn_cb); (walk_at "ea"); (walk_at "opn"))
  | ((with_reducible apply evn_call); (walk_at "ea"); (walk_at "call")))
local macro_rules | `(tactic| walk_at "ev") => `(tactic| first
  | with_reducible exact ev_int | with_reducible exact ev_bl | with_reducible exact ev_non | with_reducible exact ev_str
  | ((with_reducible apply ev_var); rfl)
  | ((with_reducible apply ev_op); (walk_at "ev"); (walk_at "ev"); (walk_at "op"))
  | ((with_reducible apply ev_un); (walk_at "ev"); (walk_at "op"))
  | ((with_reducible apply ev_call); (walk_at "ea"); (walk_at "call"))
  | ((with_reducible apply ev_callD); (walk_at "ea"); (intro _ _; exact rxs_1); (walk_at "call"))
  | ((with_reducible apply ev_callK); (walk_at "ea"); rfl; (intro _ _ _ hh; first | exact rxs_swap2 hh | exact rxs_same1 hh); (walk_at "call"))
  | ((with_reducible apply ev_isi); (walk_at "ev"); (walk_at "isi"))
  | ((with_reducible apply ev_isi2); (walk_at "ev"); (walk_at "isi"); (walk_at "isi"))
  | ((with_reducible apply ev_cb); (walk_at "ea"); (walk_at "op"))
  | ((with_reducible apply ev_tupU); (walk_at "ea"); (walk_at "und"); (walk_at "sd"))
  | ((with_reducible apply ev_new); (walk_at "evn"))
  | ((with_reducible apply ev_slT); (walk_at "ev"); (walk_at "eo"); (walk_at "eo"))
  | ((with_reducible apply ev_andV); (walk_at "ev"); (intro _; walk_at "ev"); (intro _; rfl))
  | ((with_reducible apply ev_orV); (walk_at "ev"); (intro _; walk_at "ev"); (intro _; rfl))
  | ((with_reducible apply ev_notV); (walk_at "ev")))
local macro_rules | `(tactic| walk_at "eo") => `(tactic| first
  | with_reducible exact eo_none
  | ((with_reducible apply eo_some); (walk_at "ev")))
local macro_rules | `(tactic| walk_at "et") => `(tactic| first
  | ((with_reducible apply et_test); (walk_at "ev"))
  | ((with_reducible apply et_B); (walk_at "ev"))
  | ((with_reducible apply et_not); (walk_at "et"))
  | ((with_reducible apply et_and); (walk_at "et"); (intro _; walk_at "et"); (intro _; rfl))
  | ((with_reducible apply et_or); (walk_at "et"); (intro _; walk_at "et"); (intro _; rfl)))
local macro_rules | `(tactic| walk_at "w") => `(tactic| first
  | (with_reducible apply w_seq)
  | (with_reducible apply w_next)
  | ((with_reducible apply w_asg); (walk_at "ev"))
  | ((with_reducible apply w_ret); (walk_at "ev"))
  | ((with_reducible apply w_drop); (walk_at "ev"))
  | ((with_reducible apply w_par); (walk_at "ea"))
  | ((with_reducible apply w_tup2); (walk_at "ev"))
  | ((with_reducible apply w_tup3); (walk_at "ev"))
  | ((with_reducible apply w_setI); (walk_at "ev"); (walk_at "ev"); (walk_at "ev"); (walk_at "sd"); (walk_at "sd"))
  | ((with_reducible apply w_if); (walk_at "et")))

variable {P : Program} {w : World} {K : Pw.Fg} {mg : Str → Option Value} {base : Heap} {f : Addr} {fd : FuncData} {ζ : ZA}
/-! ### the law's own fraction -/
theorem ok_lfrac (Z : Zx K mg ζ) (G : Fun K "_law_frac" "_law_frac" s__law_frac f fd) : FnOk P w K mg base CX0 1 f fd ["_law_top", "_law_under"] (spF K R_frac) := by
  refine G.ok sc__law_frac (spF_len fun xs s x s' h => by cases h; rfl) (fun cdv A outer s H vs Q E hr ⟨M, xs, st, x, st', h, So, rx, q⟩ => ?_)
  cases h with
  | @mk u v _ h hu hv =>
  refine ⟨_, (pss_cons (ps_par (i := 2) (j := 3) (by rfl) sc__law_frac.nd rfl rfl (by decide) rfl rfl (pa_cons (pe_callB cb_abs (by rfl) Z.z_abs bt_abs (pa_cons (pv 0) pa_nil)) (pa_cons (pe_callB cb_abs (by rfl) Z.z_abs bt_abs (pa_cons (pv 1) pa_nil)) pa_nil)) (by rfl))
      (pss_cons (ps_while PassesOwn.never (pt_cmpR op_gtA (pv 3) (pe_int) (nomark _)) (pss_one (ps_par (i := 2) (j := 3) (by rfl) sc__law_frac.nd rfl rfl (by decide) rfl rfl (pa_cons (pv 3) (pa_cons (pe_op op_modA (pv 2) (pv 3)) pa_nil)) (by rfl))))
      (pss_cons (ps_set (i := 4) sc__law_frac.nd rfl (.inl rfl) (pe_ifExp (pt_cmpR op_gtA (pv 1) (pe_int) (nomark _)) (pe_int) (pe_un un_negA (pe_int))))
      (pss_one (ps_ret (pe_tup (pa_cons (pe_op op_fdivA (pe_op op_times (pv 4) (pv 0)) (pv 2)) (pa_cons (pe_op op_fdivA (pe_callB cb_abs (by rfl) Z.z_abs bt_abs (pa_cons (pv 1) pa_nil)) (pv 2)) pa_nil)))))))), ?_⟩
  refine w_run So rx ?_
  try simp only [nox_K, cx_K, List.map_cons, List.map_nil]
  have q' := okr_0 q So.len
  have g0 := gcd_pos (u := u) h
  iterate 3 (walk_at "w")
  refine w_while (fun m ρ s => s = st ∧ ∃ p : Nat, ρ = [some (.d (.int u)), some (.d (.int v)), some (.d (.int (p : Int))), some (.d (.int (m : Int))), none] ∧ Nat.gcd p m = Nat.gcd u.natAbs v.natAbs) ⟨v.natAbs, rfl, u.natAbs, ?_, rfl⟩ ?_
  · rw [abs_if, abs_if]
    rfl
  · rintro m ρ s2 ⟨rfl, p, rfl, hg⟩
    refine ⟨decide (0 < (m : Int)), s2, ?_, ?_, ?_⟩
    · walk_at "et"
    · intro c N hN
      have hm : 0 < m := by
        have := of_decide_eq_true c
        omega
      walk_at "w"
      refine hN (p % m) _ _ (Nat.mod_lt _ hm) ⟨rfl, m, ?_, ?_⟩
      · rw [cast_fmod hm]
        rfl
      · rw [Nat.gcd_comm, ← Nat.gcd_rec, Nat.gcd_comm]
        exact hg
    · intro c
      have hm : m = 0 := by
        have := of_decide_eq_false c
        omega
      subst hm
      rw [Nat.gcd_zero_right] at hg
      subst hg
      have hs : Sm 4000 (((Nat.gcd u.natAbs v.natAbs : Nat)) : Int) := hv.le (by
        rw [Int.natAbs_natCast]
        exact Nat.le_of_dvd (by omega) (Nat.gcd_dvd_right _ _))
      have c1 : ∀ i, CF i (((Nat.gcd u.natAbs v.natAbs : Nat)) : Int) := fun i => cf_sm (by omega) hs
      have c2 := c1 (sg v * u)
      have c3 := c1 (if v < 0 then -v else v)
      have c4 : CM (sg v) u := by
        have := sg_abs v
        exact cm_l (by omega) (by omega)
      walk_at "w"
      with_reducible apply w_asg (x := .d (.int (sg v)))
      · with_reducible apply ev_if
        · walk_at "et"
        · intro cc
          exact ev_int.is (by unfold sg; rw [if_pos (of_decide_eq_true cc)])
        · intro cc
          have e : sg v = -1 := by unfold sg; rw [if_neg (of_decide_eq_false cc)]
          rw [e]
          walk_at "ev"
      · walk_at "w"
        refine q'.is ?_
        rw [abs_if]
        rfl
section
local macro_rules | `(tactic| walk_at "call") => `(tactic| exact fr_mk (by assumption) (by assumption) (by assumption))
end
/-! ### a drawn fraction -/
inductive R_draw : Gr
  | mk {l b n c s} (hl : s[l]? = some (bxl b)) (hn : 0 ≤ n) (hn2 : n ≤ 100000) (hc : Bk c b) (hc2 : c + 2 ≤ 2 ^ 40) : R_draw [.loc l, .d (.int n)] s (.d (lw (drN b n) (drD b n))) ((s.set l (bxl (tkB b (2 * n + 1)))).set l (bxl (drB b n)))
theorem ok_draw (c__law_take : Cb P w K mg base "_law_take" 1 [] (spF K R_take)) (c__law_of : Cb P w K mg base "_law_of" 2 [] (spF K R_of)) (c__law_frac : Cb P w K mg base "_law_frac" 1 [] (spF K R_frac)) (G : Fun K "_law_draw" "_law_draw" s__law_draw f fd) : FnOk P w K mg base CX0 3 f fd ["_law_box_here", "_law_top"] (spF K R_draw) := by
  refine G.ok sc__law_draw (spF_len fun xs s x s' h => by cases h; rfl) (fun cdv A outer s H vs Q E hr ⟨M, xs, st, x, st', h, So, rx, q⟩ => ?_)
  cases h with
  | @mk l b n c _ hl hn hn2 hc hc2 =>
  refine ⟨_, (pss_one (ps_ret (pe_cb c__law_frac (hr.mono (by decide)) (by rfl) (pa_cons (pe_op op_minus (pe_cb c__law_take (hr.mono (by decide)) (by rfl) (pa_cons (pv 0) (pa_cons (pe_op (opk_plus (K := K)) (pe_op op_times (pe_int) (pv 1)) (pe_int)) pa_nil))) (pv 1)) (pa_cons (pe_cb c__law_of (hr.mono (by decide)) (by rfl) (pa_cons (pv 0) (pa_cons (pe_lst (pa_cons (pe_int) (pa_cons (pe_int) (pa_cons (pe_int) (pa_cons (pe_int) (pa_cons (pe_int) (pa_cons (pe_int) pa_nil))))))) pa_nil))) pa_nil))))), ?_⟩
  refine w_run So rx ?_
  try simp only [nox_K, cx_K, List.map_cons, List.map_nil]
  have q' := okr_0 q (by rw [List.length_set, List.length_set]; exact So.len)
  have h1 := drN_le (b := b) hn
  have h2 := drD_le (b := b) (n := n)
  have s1 : Sm 20 (drN b n) := .of 100000 (by omega)
  have s2 : Sm 20 (drD b n) := .of 4 (by omega)
  with_reducible apply w_ret
  · with_reducible apply ev_call
    · with_reducible apply eva_cons
      · with_reducible apply ev_op
        · with_reducible apply ev_call
          · walk_at "ea"
          · exact .mk hl (by omega) (by omega) hc (by omega)
        · walk_at "ev"
        · walk_at "op"
      · with_reducible apply eva_cons
        · with_reducible apply ev_call
          · walk_at "ea"
          · exact R_of.mk (ds := [.int 1, .int 1, .int 1, .int 2, .int 3, .int 4]) (b := tkB b (2 * n + 1)) (c := c + 1) (gs hl) (by decide) (by decide) hc.next (by omega) (drD_at (b := b) (n := n))
        · exact eva_nil
    · exact fr_mk (n := 20) (m := 20) s1 s2 (by omega)
  · exact q'
end
end K04
namespace K04
open PySem L2 Pw Km
section
local macro_rules | `(tactic| walk_at "sd") => `(tactic| first | rfl | assumption | exact Nat.le_of_ble_eq_true rfl | decide | omega | (walk_at "sd2"))
local macro_rules | `(tactic| walk_at "sd2") => `(tactic| first | exact cm_sm (by assumption) (by assumption) | exact cf_sm (by assumption) (by assumption) | ((with_reducible apply gs); (walk_at "sd")) | exact cm_fm7 | exact cm_if | exact cm_l (by omega) (by omega) | exact cm_r (by omega) (by omega) | exact cf_c (by omega) (by omega))
local macro_rules | `(tactic| walk_at "isi") => `(tactic| with_reducible first | exact kit_int | exact kit_bool | exact kit_tuple | exact kit_list | exact kit_str)
local macro_rules | `(tactic| walk_at "und") => `(tactic| with_reducible repeat (first | exact Und.nil | apply Und.cons))
local macro_rules | `(tactic| walk_at "op") => `(tactic| (first
  | with_reducible exact o_add | with_reducible exact o_minus | with_reducible exact o_lt | with_reducible exact o_gt | with_reducible exact o_le | with_reducible exact o_ge | with_reducible exact o_neg
  | with_reducible exact o_isN | with_reducible exact o_isntN | with_reducible exact o_isB | with_reducible exact o_isntB | with_reducible exact o_neS | with_reducible exact o_eqS
  | with_reducible exact o_abs | with_reducible exact o_intB | with_reducible exact o_min2 | with_reducible exact o_max2 | with_reducible exact o_lenL | with_reducible exact o_lenT | with_reducible exact o_lenC | with_reducible exact o_gcd
  | with_reducible apply o_ixT | with_reducible apply o_ixL | with_reducible apply o_ixM | with_reducible apply o_ixS | with_reducible apply o_lenM
  | with_reducible apply o_mul | with_reducible apply o_fdiv | with_reducible apply o_mod | with_reducible apply o_pow | with_reducible apply o_eq | with_reducible apply o_ne | with_reducible apply o_catT | with_reducible apply o_repr | with_reducible apply o_all) <;> walk_at "sd")
local macro_rules | `(tactic| walk_at "opn") => `(tactic| (first
  | with_reducible apply o_cat | with_reducible apply o_repI | with_reducible exact o_listT | with_reducible exact o_listL) <;> walk_at "sd")
local macro_rules | `(tactic| walk_at "ea") => `(tactic| first
  | with_reducible exact eva_nil
  | ((with_reducible apply eva_cons); (walk_at "ev"); (walk_at "ea")))
local macro_rules | `(tactic| walk_at "call") => `(tactic| fail)
local macro_rules | `(tactic| walk_at "evn") => `(tactic| first
  | ((with_reducible apply evn_lstU); (walk_at "ea"); (walk_at "und"); (walk_at "sd"))
  | ((with_reducible apply evn_op); (walk_at "ev"); (walk_at "ev"); (walk_at "opn"))
  | ((with_reducible apply evn_cb); (walk_at "ea"); (walk_at "opn"))
  | ((with_reducible apply evn_call); (walk_at "ea"); (walk_at "call")))
local macro_rules | `(tactic| walk_at "ev") => `(tactic| first
  | with_reducible exact ev_int | with_reducible exact ev_bl | with_reducible exact ev_non | with_reducible exact ev_str
  | ((with_reducible apply ev_var); rfl)
  | ((with_reducible apply ev_op); (walk_at "ev"); (walk_at "ev"); (walk_at "op"))
  | ((with_reducible apply ev_un); (walk_at "ev"); (walk_at "op"))
  | ((with_reducible apply ev_call); (walk_at "ea"); (walk_at "call"))
  | ((with_reducible apply ev_callD); (walk_at "ea"); (intro _ _; exact rxs_1); (walk_at "call"))
  | ((with_reducible apply ev_callK); (walk_at "ea"); rfl; (intro _ _ _ hh; first | exact rxs_swap2 hh | exact rxs_same1 hh); (walk_at "call"))
  | ((with_reducible apply ev_isi); (walk_at "ev"); (walk_at "isi"))
  | ((with_reducible apply ev_isi2); (walk_at "ev"); (walk_at "isi"); (walk_at "isi"))
  | ((with_reducible apply ev_cb); (walk_at "ea"); (walk_at "op"))
  | ((with_reducible apply ev_tupU); (walk_at "ea"); (walk_at "und"); (walk_at "sd"))
  | ((with_reducible apply ev_new); (walk_at "evn"))
  | ((with_reducible apply ev_slT); (walk_at "ev"); (walk_at "eo"); (walk_at "eo"))
  | ((with_reducible apply ev_andV); (walk_at "ev"); (intro _; walk_at "ev"); (intro _; rfl))
  | ((with_reducible apply ev_orV); (walk_at "ev"); (intro _; walk_at "ev"); (intro _; rfl))
  | ((with_reducible apply ev_notV); (walk_at "ev")))
local macro_rules | `(tactic| walk_at "eo") => `(tactic| first
  | with_reducible exact eo_none
  | ((with_reducible apply eo_some); (walk_at "ev")))
local macro_rules | `(tactic| walk_at "et") => `(tactic| first
  | ((with_reducible apply et_test); (walk_at "ev"))
  | ((with_reducible apply et_B); (walk_at "ev"))
  | ((with_reducible apply et_not); (walk_at "et"))
  | ((with_reducible apply et_and); (walk_at "et"); (intro _; walk_at "et"); (intro _; rfl))
  | ((with_reducible apply et_or); (walk_at "et"); (intro _; walk_at "et"); (intro _; rfl)))
local macro_rules | `(tactic| walk_at "w") => `(tactic| first
  | (with_reducible apply w_seq)
  | (with_reducible apply w_next)
  | ((with_reducible apply w_asg); (walk_at "ev"))
  | ((with_reducible apply w_ret); (walk_at "ev"))
  | ((with_reducible apply w_drop); (walk_at "ev"))
  | ((with_reducible apply w_par); (walk_at "ea"))
  | ((with_reducible apply w_tup2); (walk_at "ev"))
  | ((with_reducible apply w_tup3); (walk_at "ev"))
  | ((with_reducible apply w_setI); (walk_at "ev"); (walk_at "ev"); (walk_at "ev"); (walk_at "sd"); (walk_at "sd"))
  | ((with_reducible apply w_if); (walk_at "et")))

variable {P : Program} {w : World} {K : Pw.Fg} {mg : Str → Option Value} {base : Heap} {f : Addr} {fd : FuncData} {ζ : ZA}
/-! ### the same, kind by kind -/
inductive R_same (n : Nat) : Gr
  | mk {d s} (h : PyData.canLay0 d = true) (hd : PyData.depth d < n) (hz : nod d ≤ 1000000) (hn : n ≤ 60) : R_same n [.d d, .d d] s (.d (.bool true)) s
theorem ok_same (Z : Zx K mg ζ) (hm : mg "_law_same" = some (.ref f)) (G : Fun K "_law_same" "_law_same" s__law_same f fd) : ∀ n, FnOk P w K mg base CX0 n f fd ["_law_found", "_law_due"] (spF K (R_same n))
  | 0 => ⟨spF_len fun xs s x s' h => by cases h; rfl, fun A outer s H args us vs Q E hr e0 hb hv ⟨M, xs, st, x, st', h, _⟩ => by
    cases h with
    | mk h hd hz hn => exact absurd hd (by omega)⟩
  | n + 1 => by
    have c__law_same : Cb P w K mg base "_law_same" n [] (spF K (R_same n)) := cb_mk G hm (ok_same Z hm G n) fun _ _ _ _ _ _ us hl => match us, hl with | [_, _], _ => rfl
    refine G.ok sc__law_same (spF_len fun xs s x s' h => by cases h; rfl) (fun cdv A outer s H vs Q E hr ⟨M, xs, st, x, st', h, So, rx, q⟩ => ?_)
    cases h with
    | @mk d _ h hd hz hn =>
    refine ⟨_, (pss_cons (ps_if (pt_val (pe_callB (cbk_isiT (K := K)) (by rfl) Z.z_isinstance bt_isinstance (pa_cons (pv 1) (pa_cons (pe_tup (pa_cons (pe_bltn (v := .ty "list") (by rfl) Z.z_list bt_list rfl) (pa_cons (pe_bltn (v := .ty "tuple") (by rfl) Z.z_tuple bt_tuple rfl) pa_nil))) pa_nil)))) (pss_cons (ps_if (PW.pt (pw_or (pt_cmpR (opk_ne (K := K) hr.units) (pe_callB (cbk_isi (K := K)) (by rfl) Z.z_isinstance bt_isinstance (pa_cons (pv 0) (pa_cons (pe_bltn (v := .ty "list") (by rfl) Z.z_list bt_list rfl) pa_nil))) (pe_callB (cbk_isi (K := K)) (by rfl) Z.z_isinstance bt_isinstance (pa_cons (pv 1) (pa_cons (pe_bltn (v := .ty "list") (by rfl) Z.z_list bt_list rfl) pa_nil))) (nomark _)) (pw_or1 (pt_cmpR (opk_ne (K := K) hr.units) (pe_callB (cbk_isi (K := K)) (by rfl) Z.z_isinstance bt_isinstance (pa_cons (pv 0) (pa_cons (pe_bltn (v := .ty "tuple") (by rfl) Z.z_tuple bt_tuple rfl) pa_nil))) (pe_callB (cbk_isi (K := K)) (by rfl) Z.z_isinstance bt_isinstance (pa_cons (pv 1) (pa_cons (pe_bltn (v := .ty "tuple") (by rfl) Z.z_tuple bt_tuple rfl) pa_nil))) (nomark _))))) (pss_one (ps_ret (pe_bl))) pss_nil)
      (pss_one (ps_ret (pe_and (pe_cmpR (opk_eq (K := K) hr.units) (pe_callB (cbk_len (K := K)) (by rfl) Z.z_len bt_len (pa_cons (pv 0) pa_nil)) (pe_callB (cbk_len (K := K)) (by rfl) Z.z_len bt_len (pa_cons (pv 1) pa_nil)) (nomark _)) (pe_one (pe_callB (cbk_all (K := K) rfl) (by rfl) Z.z_all bt_all (pa_cons (pe_lc (own := [("_law_here", 2), ("_law_there", 3)]) rfl sc__law_same.nd (pik_zip (K := K) (by rfl) Z.z_zip (pa_cons (pv 0) (pa_cons (pv 1) pa_nil))) (blkOk_by (own := [("_law_here", 2), ("_law_there", 3)]) (N := N__law_same) (sc := defScope s__law_same) (by decide +kernel)) (fun _ _ _ _ _ => (pgk_tup (K := K) 2 (by rfl) (pgs_cons (pg_name (i := 2) sc__law_same.nd rfl (Or.inl rfl)) (pgs_cons (pg_name (i := 3) sc__law_same.nd rfl (Or.inl rfl)) pgs_nil)))) (fun _ _ _ _ _ => pts_nil) (fun _ _ _ _ _ => pe_cb c__law_same (hr.mono (by omega)) (by rfl) (pa_cons (pv 2) (pa_cons (pv 3) pa_nil)))) pa_nil))))))) pss_nil)
      (pss_cons (ps_if (PW.pt (pw_or (pt_cmpR (opk_ne (K := K) hr.units) (pe_callB (cbk_isi (K := K)) (by rfl) Z.z_isinstance bt_isinstance (pa_cons (pv 0) (pa_cons (pe_bltn (v := .ty "bool") (by rfl) Z.z_bool bt_bool rfl) pa_nil))) (pe_callB (cbk_isi (K := K)) (by rfl) Z.z_isinstance bt_isinstance (pa_cons (pv 1) (pa_cons (pe_bltn (v := .ty "bool") (by rfl) Z.z_bool bt_bool rfl) pa_nil))) (nomark _)) (pw_or1 (pt_cmpR (opk_ne (K := K) hr.units) (pe_callB (cbk_isi (K := K)) (by rfl) Z.z_isinstance bt_isinstance (pa_cons (pv 0) (pa_cons (pe_bltn (v := .ty "int") (by rfl) Z.z_int bt_int rfl) pa_nil))) (pe_callB (cbk_isi (K := K)) (by rfl) Z.z_isinstance bt_isinstance (pa_cons (pv 1) (pa_cons (pe_bltn (v := .ty "int") (by rfl) Z.z_int bt_int rfl) pa_nil))) (nomark _))))) (pss_one (ps_ret (pe_bl))) pss_nil)
      (pss_one (ps_ret (pe_cmpR (opk_eq (K := K) hr.units) (pv 0) (pv 1) (nomark _)))))), ?_⟩
    refine w_run So rx ?_
    try simp only [nox_K, cx_K, List.map_cons, List.map_nil]
    have q' := okr_0 q So.len
    have sB : ∀ b : Bool, SeqAt.shaped (.bool b) = true := fun _ => rfl
    have self : ∀ b : Bool, PyData.eqv (.bool b) (.bool b) = true := fun b => by simp [PyData.eqv]
    walk_at "w"
    by_cases hk : ∃ (ds : List PyData) (wr : List PyData → PyData), (wr = PyData.list ∨ wr = PyData.tuple) ∧ d = wr ds
    · obtain ⟨ds, wr, hw, rfl⟩ := hk
      have hlay : PyData.canLayAll0 ds = true := by
        rcases hw with hw | hw <;> (subst hw; simpa [PyData.canLay0] using h)
      have hdep : PyData.depthAll ds + 1 < n + 1 := by
        rcases hw with hw | hw <;> (subst hw; simpa [PyData.depth] using hd)
      have hnod : nodAll ds ≤ 1000000 := by
        rcases hw with hw | hw <;> (subst hw; simpa [nod] using hz)
      have main : ∀ {s2 : Sto}, EvN K (tLc (RZ.iZipA K (tCons (tVar 0) (tCons (tVar 1) tNil))) (gTup K 2 (gCons (gName 2) (gCons (gName 3) gNil))) tYes (tCall (spF K (R_same n)) [] E0 (tCons (tVar 2) (tCons (tVar 3) tNil))) [2, 3]) (rho0 N__law_same [.d (wr ds), .d (wr ds)]) s2 ((ds.map fun _ => true).map PyData.bool) s2 := fun {s2} => by
        refine evn_lcZ (S := fun _ => s2) (ds := ds) (fs := ds) hw (by walk_at "ea") rfl (by simp) ?_ ?_
        · rw [List.length_map, List.length_map]
          exact Nat.le_trans (nod_len ds) hnod
        · intro i d f e h1 h2 h3
          rw [h1] at h2
          cases h2
          rw [List.map_map, List.getElem?_map, h1] at h3
          cases h3
          with_reducible apply ev_call
          · walk_at "ea"
          · refine .mk (lay_mem hlay h1) ?_ (Nat.le_trans (nod_mem h1) hnod) (by omega)
            have := dep_mem h1
            omega
      have fin : ∀ {s2 : Sto} {t1 : TE} {D : Ends}, D.rt = Q → s2 = st → Ev K t1 (rho0 N__law_same [.d (wr ds), .d (wr ds)]) s2 (.d (.bool (PyData.eqv (.int (ds.length : Nat)) (.int (ds.length : Nat))))) s2 →
          W K M H [] (tRet (tAndV t1 (tCB (rAll K) (tCons (tLc (RZ.iZipA K (tCons (tVar 0) (tCons (tVar 1) tNil))) (gTup K 2 (gCons (gName 2) (gCons (gName 3) gNil))) tYes (tCall (spF K (R_same n)) [] E0 (tCons (tVar 2) (tCons (tVar 3) tNil))) [2, 3]) tNil))) D) (rho0 N__law_same [.d (wr ds), .d (wr ds)]) s2 := fun {s2 t1 D} hD hs h1 => by
        subst hs
        have e1 : PyData.eqv (.int (ds.length : Nat)) (.int (ds.length : Nat)) = true := by simp [PyData.eqv]
        rw [e1] at h1
        refine w_ret (x := .d (.bool true)) (s1 := s2) ?_ (by rw [hD]; exact q')
        refine (ev_andV (b := true) (c := (ds.map fun _ => true).all id) h1 (fun _ => ?_) (fun c => by cases c)).is (by rw [all_true]; rfl)
        refine ev_cb (eva_cons (ev_new main) eva_nil) o_all
      rcases hw with hw | hw
      · subst hw
        walk_at "w"
        · intro c
          iterate 2 (walk_at "w")
          · intro c2
            simp [PyData.eqv] at c2
          · intro c2
            walk_at "w"
            with_reducible apply fin
            · rfl
            · rfl
            · walk_at "ev"
        · intro c
          simp [isL] at c
      · subst hw
        walk_at "w"
        · intro c
          iterate 2 (walk_at "w")
          · intro c2
            simp [PyData.eqv] at c2
          · intro c2
            walk_at "w"
            with_reducible apply fin
            · rfl
            · rfl
            · walk_at "ev"
        · intro c
          simp [isT] at c
    · have e1 : isL d = false := by
        cases d <;> first | rfl | exact absurd ⟨_, _, .inl rfl, rfl⟩ hk
      have e2 : isT d = false := by
        cases d <;> first | rfl | exact absurd ⟨_, _, .inr rfl, rfl⟩ hk
      have hsd : SeqAt.shaped d = true := shaped_of h (by omega)
      have e3 := eqv_self d h
      walk_at "w"
      · intro c
        rw [e1, e2] at c
        cases c
      · intro c
        iterate 3 (walk_at "w")
        · intro c2
          simp [PyData.eqv] at c2
        · intro c2
          iterate 2 (walk_at "w")
          exact q'.is (by rw [e3])
end
end K04
namespace K04
open PySem L2 Pw Km
theorem eqv_ii {a b : Int} : PyData.eqv (.int a) (.int b) = decide (a = b) := by
  rw [Bool.eq_iff_iff]
  simp [PyData.eqv]
theorem fm_nat {a b : Nat} : ((a : Int).fmod (b : Int)) = ((a % b : Nat) : Int) := by
  rw [Int.fmod_eq_emod_of_nonneg _ (Int.natCast_nonneg b)]
  rfl
theorem fd_nat {a b : Nat} : ((a : Int).fdiv (b : Int)) = ((a / b : Nat) : Int) := by
  rw [Int.fdiv_eq_ediv_of_nonneg _ (Int.natCast_nonneg b)]
  rfl
theorem smn {n : Nat} {a : Nat} (b : Nat) (h : a ≤ b) (e : b < 2 ^ n := by decide) : Sm n (a : Int) := .of b (by omega) e
section
local macro_rules | `(tactic| walk_at "sd") => `(tactic| first | rfl | assumption | exact Nat.le_of_ble_eq_true rfl | decide | omega | (walk_at "sd2"))
local macro_rules | `(tactic| walk_at "sd2") => `(tactic| first | exact cm_sm (by assumption) (by assumption) | exact cf_sm (by assumption) (by assumption) | ((with_reducible apply gs); (walk_at "sd")) | exact cm_fm7 | exact cm_if | exact cm_l (by omega) (by omega) | exact cm_r (by omega) (by omega) | exact cf_c (by omega) (by omega))
local macro_rules | `(tactic| walk_at "isi") => `(tactic| with_reducible first | exact kit_int | exact kit_bool | exact kit_tuple | exact kit_list | exact kit_str)
local macro_rules | `(tactic| walk_at "und") => `(tactic| with_reducible repeat (first | exact Und.nil | apply Und.cons))
local macro_rules | `(tactic| walk_at "op") => `(tactic| (first
  | with_reducible exact o_add | with_reducible exact o_minus | with_reducible exact o_lt | with_reducible exact o_gt | with_reducible exact o_le | with_reducible exact o_ge | with_reducible exact o_neg
  | with_reducible exact o_isN | with_reducible exact o_isntN | with_reducible exact o_isB | with_reducible exact o_isntB | with_reducible exact o_neS | with_reducible exact o_eqS
  | with_reducible exact o_abs | with_reducible exact o_intB | with_reducible exact o_min2 | with_reducible exact o_max2 | with_reducible exact o_lenL | with_reducible exact o_lenT | with_reducible exact o_lenC | with_reducible exact o_gcd
  | with_reducible apply o_ixT | with_reducible apply o_ixL | with_reducible apply o_ixM | with_reducible apply o_ixS | with_reducible apply o_lenM
  | with_reducible apply o_mul | with_reducible apply o_fdiv | with_reducible apply o_mod | with_reducible apply o_pow | with_reducible apply o_eq | with_reducible apply o_ne | with_reducible apply o_catT | with_reducible apply o_repr | with_reducible apply o_all) <;> walk_at "sd")
local macro_rules | `(tactic| walk_at "opn") => `(tactic| (first
  | with_reducible apply o_cat | with_reducible apply o_repI | with_reducible exact o_listT | with_reducible exact o_listL) <;> walk_at "sd")
local macro_rules | `(tactic| walk_at "ea") => `(tactic| first
  | with_reducible exact eva_nil
  | ((with_reducible apply eva_cons); (walk_at "ev"); (walk_at "ea")))
local macro_rules | `(tactic| walk_at "call") => `(tactic| fail)
local macro_rules | `(tactic| walk_at "evn") => `(tactic| first
  | ((with_reducible apply evn_lstU); (walk_at "ea"); (walk_at "und"); (walk_at "sd"))
  | ((with_reducible apply evn_op); (walk_at "ev"); (walk_at "ev"); (walk_at "opn"))
  | ((with_reducible apply evn_cb); (walk_at "ea"); (walk_at "opn"))
  | ((with_reducible apply evn_call); (walk_at "ea"); (walk_at "call")))
local macro_rules | `(tactic| walk_at "ev") => `(tactic| first
  | with_reducible exact ev_int | with_reducible exact ev_bl | with_reducible exact ev_non | with_reducible exact ev_str
  | ((with_reducible apply ev_var); rfl)
  | ((with_reducible apply ev_op); (walk_at "ev"); (walk_at "ev"); (walk_at "op"))
  | ((with_reducible apply ev_un); (walk_at "ev"); (walk_at "op"))
  | ((with_reducible apply ev_call); (walk_at "ea"); (walk_at "call"))
  | ((with_reducible apply ev_callD); (walk_at "ea"); (intro _ _; exact rxs_1); (walk_at "call"))
  | ((with_reducible apply ev_callK); (walk_at "ea"); rfl; (intro _ _ _ hh; first | exact rxs_swap2 hh | exact rxs_same1 hh); (walk_at "call"))
  | ((with_reducible apply ev_isi); (walk_at "ev"); (walk_at "isi"))
  | ((with_reducible apply ev_isi2); (walk_at "ev"); (walk_at "isi"); (walk_at "isi"))
  | ((with_reducible apply ev_cb); (walk_at "ea"); (walk_at "op"))
  | ((with_reducible apply ev_tupU); (walk_at "ea"); (walk_at "und"); (walk_at "sd"))
  | ((with_reducible apply ev_new); (walk_at "evn"))
  | ((with_reducible apply ev_slT); (walk_at "ev"); (walk_at "eo"); (walk_at "eo"))
  | ((with_reducible apply ev_andV); (walk_at "ev"); (intro _; walk_at "ev"); (intro _; rfl))
  | ((with_reducible apply ev_orV); (walk_at "ev"); (intro _; walk_at "ev"); (intro _; rfl))
  | ((with_reducible apply ev_notV); (walk_at "ev")))
local macro_rules | `(tactic| walk_at "eo") => `(tactic| first
  | with_reducible exact eo_none
  | ((with_reducible apply eo_some); (walk_at "ev")))
local macro_rules | `(tactic| walk_at "et") => `(tactic| first
  | ((with_reducible apply et_test); (walk_at "ev"))
  | ((with_reducible apply et_B); (walk_at "ev"))
  | ((with_reducible apply et_not); (walk_at "et"))
  | ((with_reducible apply et_and); (walk_at "et"); (intro _; walk_at "et"); (intro _; rfl))
  | ((with_reducible apply et_or); (walk_at "et"); (intro _; walk_at "et"); (intro _; rfl)))
local macro_rules | `(tactic| walk_at "w") => `(tactic| first
  | (with_reducible apply w_seq)
  | (with_reducible apply w_next)
  | ((with_reducible apply w_asg); (walk_at "ev"))
  | ((with_reducible apply w_ret); (walk_at "ev"))
  | ((with_reducible apply w_drop); (walk_at "ev"))
  | ((with_reducible apply w_par); (walk_at "ea"))
  | ((with_reducible apply w_tup2); (walk_at "ev"))
  | ((with_reducible apply w_tup3); (walk_at "ev"))
  | ((with_reducible apply w_setI); (walk_at "ev"); (walk_at "ev"); (walk_at "ev"); (walk_at "sd"); (walk_at "sd"))
  | ((with_reducible apply w_if); (walk_at "et")))

variable {P : Program} {w : World} {K : Pw.Fg} {mg : Str → Option Value} {base : Heap} {f : Addr} {fd : FuncData} {ζ : ZA}
inductive R_parted : Gr
  | z {s} : R_parted [.d (.int 0)] s (.d (q2 0 1)) s
  | mk {m a u : Nat} {s} (h : Prt m a u) (hm : m ≤ 1000000) : R_parted [.d (.int (m : Int))] s (.d (q2 a u)) s
/-- the loop's state: side a, under u, step t -/
structure Pst (m a u t : Nat) : Prop where
  eq : a * a * u = m
  a1 : 1 ≤ a
  u1 : 1 ≤ u
  t2 : 2 ≤ t
  no : ∀ r, 2 ≤ r → r < t → ¬ (r * r ∣ u)
theorem Pst.um {m a u t : Nat} (h : Pst m a u t) : u ≤ m := by
  rw [← h.eq]
  exact Nat.le_mul_of_pos_left _ (Nat.mul_pos h.a1 h.a1)
theorem Pst.am {m a u t : Nat} (h : Pst m a u t) : a ≤ m := by
  rw [← h.eq, Nat.mul_assoc]
  exact Nat.le_mul_of_pos_right _ (Nat.mul_pos h.a1 h.u1)
theorem Pst.part {m a u t : Nat} (h : Pst m a u t) (hd : u % (t * t) = 0) : Pst m (a * t) (u / (t * t)) t ∧ u / (t * t) < u := by
  have tt : 4 ≤ t * t := Nat.mul_le_mul h.t2 h.t2
  obtain ⟨k, hk⟩ := Nat.dvd_of_mod_eq_zero hd
  have e : u / (t * t) = k := by rw [hk, Nat.mul_div_cancel_left _ (by omega)]
  have k1 : 1 ≤ k := by
    rcases Nat.eq_zero_or_pos k with z | z
    · subst z
      have := h.u1
      simp at hk
      omega
    · exact z
  rw [e]
  refine ⟨⟨?_, Nat.mul_pos h.a1 (by have := h.t2; omega), k1, h.t2, fun r r2 rt rd => h.no r r2 rt (by rw [hk]; exact Nat.dvd_trans rd (Nat.dvd_mul_left _ _))⟩, ?_⟩
  · rw [← h.eq, hk]
    simp only [Nat.mul_assoc, Nat.mul_comm, Nat.mul_left_comm]
  · have : 4 * k ≤ t * t * k := Nat.mul_le_mul_right k tt
    omega
theorem Pst.next {m a u t : Nat} (h : Pst m a u t) (hd : u % (t * t) ≠ 0) : Pst m a u (t + 1) := ⟨h.eq, h.a1, h.u1, by have := h.t2; omega, fun r r2 rt rd => by
  rcases Nat.lt_or_ge r t with c | c
  · exact h.no r r2 c rd
  · have e : r = t := by omega
    subst e
    exact hd (Nat.mod_eq_zero_of_dvd rd)⟩
theorem Pst.done {m a u t : Nat} (h : Pst m a u t) (hd : u < t * t) : Prt m a u := ⟨h.eq, h.a1, h.u1, fun r r2 rd => by
  rcases Nat.lt_or_ge r t with c | c
  · exact h.no r r2 c rd
  · have := Nat.le_of_dvd h.u1 rd
    have := Nat.mul_le_mul c c
    omega⟩
theorem t_le {t u : Nat} (h : t * t ≤ u) (hu : u ≤ 1000000) : t ≤ 1000 := by
  rcases Nat.lt_or_ge 1000 t with q | q
  · have := Nat.mul_le_mul (show 1001 ≤ t from q) (show 1001 ≤ t from q)
    omega
  · exact q
theorem ok_parted (Z : Zx K mg ζ) (G : Fun K "_parted" "_parted" s__parted f fd) : FnOk P w K mg base CX0 1 f fd ["many"] (spF K R_parted) := by
  refine G.ok sc__parted (spF_len fun xs s x s' h => by cases h <;> rfl) (fun cdv A outer s H vs Q E hr ⟨M, xs, st, x, st', h, So, rx, q⟩ => ?_)
  refine ⟨_, (pss_cons (ps_if (pt_cmpR (opk_eq (K := K) hr.units) (pv 0) (pe_int) (nomark _)) (pss_one (ps_ret (pe_tup (pa_cons (pe_int) (pa_cons (pe_int) pa_nil))))) pss_nil)
      (pss_cons (ps_set (i := 1) sc__parted.nd rfl (.inl rfl) (pe_int))
      (pss_cons (ps_set (i := 2) sc__parted.nd rfl (.inl rfl) (pv 0))
      (pss_cons (ps_set (i := 3) sc__parted.nd rfl (.inl rfl) (pe_int))
      (pss_cons (ps_while PassesOwn.never (pt_cmpR op_leA (pe_op op_times (pv 3) (pv 3)) (pv 2) (nomark _)) (pss_cons (ps_while PassesOwn.never (pt_cmpR (opk_eq (K := K) hr.units) (pe_op op_modA (pv 2) (pe_op op_times (pv 3) (pv 3))) (pe_int) (nomark _)) (pss_cons (ps_set (i := 2) sc__parted.nd rfl (.inl rfl) (pe_op op_fdivA (pv 2) (pe_op op_times (pv 3) (pv 3))))
      (pss_one (ps_set (i := 1) sc__parted.nd rfl (.inl rfl) (pe_op op_times (pv 1) (pv 3))))))
      (pss_one (ps_aug (i := 3) sc__parted.nd rfl (.inl rfl) (pe_int) iop_addA))))
      (pss_one (ps_ret (pe_tup (pa_cons (pv 1) (pa_cons (pv 2) pa_nil)))))))))), ?_⟩
  cases h with
  | z =>
    refine w_run So rx ?_
    try simp only [nox_K, cx_K, List.map_cons, List.map_nil]
    have q' := okr_0 q So.len
    iterate 2 (walk_at "w")
    · intro _
      walk_at "w"
      exact q'
    · intro c
      rw [eqv_ii] at c
      cases c
  | @mk m a u _ h hm =>
    refine w_run So rx ?_
    try simp only [nox_K, cx_K, List.map_cons, List.map_nil]
    have q' := okr_0 q So.len
    have m1 : 1 ≤ m := by rw [← h.eq]; exact Nat.mul_pos (Nat.mul_pos h.s1 h.s1) h.u1
    iterate 2 (walk_at "w")
    · intro c
      rw [eqv_ii] at c
      have := of_decide_eq_true c
      omega
    · intro _
      iterate 8 (walk_at "w")
      dsimp only
      refine w_while (fun k ρ s => s = st ∧ ∃ a u t : Nat, ρ = [some (.d (.int (m : Int))), some (.d (.int (a : Int))), some (.d (.int (u : Int))), some (.d (.int (t : Int)))] ∧ Pst m a u t ∧ t ≤ 1001 ∧ k = 1001 - t) ⟨999, rfl, 1, m, 2, rfl, ⟨by simp, Nat.le_refl _, m1, Nat.le_refl _, fun r r2 rt => by omega⟩, by omega, rfl⟩ ?_
      rintro k ρ s2 ⟨rfl, a', u', t, rfl, hp, tl, rfl⟩
      have z1 : Sm 20 (t : Int) := smn 1001 tl
      refine ⟨decide ((t : Int) * t ≤ u'), s2, ?_, ?_, ?_⟩
      · walk_at "et"
      · intro c N hN
        have tu : t * t ≤ u' := by
          have := of_decide_eq_true c
          omega
        have tl2 : t ≤ 1000 := t_le tu (Nat.le_trans hp.um hm)
        have tt : (t : Int) * t ≠ 0 := by
          have := hp.t2
          exact Int.mul_ne_zero (by omega) (by omega)
        have z2 := z1.mul z1
        walk_at "w"
        dsimp only
        refine w_while (fun k ρ s => s = s2 ∧ ∃ a u : Nat, ρ = [some (.d (.int (m : Int))), some (.d (.int (a : Int))), some (.d (.int (u : Int))), some (.d (.int (t : Int)))] ∧ Pst m a u t ∧ k = u) ⟨u', rfl, a', u', rfl, hp, rfl⟩ ?_
        rintro u2 ρ s3 ⟨rfl, a2, _, rfl, hp2, rfl⟩
        have z3 : Sm 20 (u2 : Int) := smn 1000000 (Nat.le_trans hp2.um hm)
        have z4 : Sm 20 (a2 : Int) := smn 1000000 (Nat.le_trans hp2.am hm)
        refine ⟨decide (u2 % (t * t) = 0), s3, ?_, ?_, ?_⟩
        · refine EvT.is (b := PyData.eqv (.int ((u2 : Int).fmod ((t : Int) * t))) (.int 0)) ?_ (by
            rw [eqv_ii, ← Int.natCast_mul, fm_nat]
            exact decide_eq_decide.mpr (by omega))
          walk_at "et"
        · intro c N2 hN2
          obtain ⟨p3, lt⟩ := hp2.part (of_decide_eq_true c)
          iterate 3 (walk_at "w")
          refine hN2 _ _ _ lt ⟨rfl, _, _, ?_, p3, rfl⟩
          rw [← Int.natCast_mul, fd_nat, ← Int.natCast_mul]
          rfl
        · intro c
          have p3 := hp2.next (of_decide_eq_false c)
          dsimp only
          refine w_aug (x := .d (.int (t : Int))) rfl ev_int o_iadd ?_
          refine hN (1001 - (t + 1)) _ _ (by omega) ⟨rfl, a2, u2, t + 1, ?_, p3, by omega, rfl⟩
          rfl
      · intro c
        have tu : u' < t * t := by
          have := of_decide_eq_false c
          omega
        obtain ⟨e1, e2⟩ := (hp.done tu).uniq h
        subst e1 e2
        walk_at "w"
        exact q'
end
end K04
namespace K04
open PySem L2 Pw Km
def isF : PyData → Bool
  | .tuple [.int a, .int b] => decide (0 < b) && PyData.eqv (.int ((Nat.gcd a.natAbs b.natAbs : Nat) : Int)) (.int 1)
  | _ => false
theorem isF_lw {u v : Int} (h : v ≠ 0) : isF (lw u v) = true := by
  have hp := lwD_pos (u := u) h
  have g := gcd_pos (u := u) h
  have e : Nat.gcd (lwN u v).natAbs (lwD u v).natAbs = 1 := by
    have hn : (lwN u v).natAbs = u.natAbs / Nat.gcd u.natAbs v.natAbs := by
      unfold lwN
      rw [Int.fdiv_eq_ediv_of_nonneg _ (by omega)]
      have d : Nat.gcd u.natAbs v.natAbs ∣ (sg v * u).natAbs := by
        rw [Int.natAbs_mul, sg_abs, Nat.one_mul]
        exact Nat.gcd_dvd_left _ _
      rw [Int.natAbs_ediv_of_dvd (Int.ofNat_dvd_left.mpr d), Int.natAbs_mul, sg_abs, Nat.one_mul, Int.natAbs_natCast]
    have hd : (lwD u v).natAbs = v.natAbs / Nat.gcd u.natAbs v.natAbs := by
      unfold lwD
      rw [Int.fdiv_eq_ediv_of_nonneg _ (by omega), ← Int.natCast_ediv, Int.natAbs_natCast]
    rw [hn, hd]
    exact Nat.gcd_div_gcd_div_gcd_of_pos_right (by omega)
  show (decide (0 < lwD u v) && (((Nat.gcd (lwN u v).natAbs (lwD u v).natAbs : Nat) : Int) == 1)) = true
  rw [e, decide_eq_true hp]
  rfl
theorem lw1 {u : Int} : lw u 1 = q2 u 1 := by
  show PyData.tuple [.int (lwN u 1), .int (lwD u 1)] = PyData.tuple [.int u, .int 1]
  rw [lw_one.1, lw_one.2]
theorem isF_ok {a b : Int} (h : isF (q2 a b) = true) : 0 < b ∧ lwN a b = a ∧ lwD a b = b := by
  have h' : (decide (0 < b) && (((Nat.gcd a.natAbs b.natAbs : Nat) : Int) == 1)) = true := h
  rw [Bool.and_eq_true, beq_iff_eq] at h'
  have hb := of_decide_eq_true h'.1
  have := (lw_self (u := a) hb).mpr (by have := h'.2; omega)
  exact ⟨hb, this⟩
theorem lw_isF {a b : Int} (h : isF (q2 a b) = true) : lw a b = q2 a b := by
  obtain ⟨_, h1, h2⟩ := isF_ok h
  show PyData.tuple [.int (lwN a b), .int (lwD a b)] = PyData.tuple [.int a, .int b]
  rw [h1, h2]
theorem lwz {v : Int} (h : v ≠ 0) : lwN 0 v = 0 ∧ lwD 0 v = 1 := by
  unfold lwN lwD
  have : ((v.natAbs : Nat) : Int) ≠ 0 := by omega
  constructor
  · rw [Int.mul_zero]
    exact Int.zero_fdiv _
  · rw [Int.natAbs_zero, Nat.gcd_zero_left]
    exact Int.fdiv_self this
theorem lwN_nz {u v : Int} (hu : u ≠ 0) (h : v ≠ 0) : lwN u v ≠ 0 := fun e => by
  have g := gcd_pos (u := u) h
  unfold lwN at e
  rw [Int.fdiv_eq_ediv_of_nonneg _ (by omega)] at e
  have d : ((Nat.gcd u.natAbs v.natAbs : Nat) : Int) ∣ sg v * u := Int.ofNat_dvd_left.mpr (by
    rw [Int.natAbs_mul, sg_abs, Nat.one_mul]
    exact Nat.gcd_dvd_left _ _)
  have := Int.ediv_mul_cancel d
  rw [e, Int.zero_mul] at this
  have s0 := sg_abs v
  rcases Int.mul_eq_zero.mp this.symm with z | z
  · rw [z] at s0
    cases s0
  · exact hu z
/-- a lowered fraction, of a size -/
structure Lf (n : Nat) (a b : Int) : Prop where
  sa : Sm n a
  sb : Sm n b
  lo : isF (q2 a b) = true
theorem Lf.pos {n : Nat} {a b : Int} (h : Lf n a b) : 0 < b := (isF_ok h.lo).1
theorem Lf.lw {u v : Int} {n m k : Nat} (h : v ≠ 0) (hu : Sm n u) (hv : Sm m v) (hn : n ≤ k := by decide) (hm : m ≤ k := by decide) : Lf k (lwN u v) (lwD u v) := ⟨(hu.mono hn).le (lwN_le h), (hv.mono hm).le (lwD_le h), isF_lw h⟩
abbrev t3 (x y z : PyData) : PyData := .tuple [x, y, z]
abbrev n0 : PyData := q2 0 1
abbrev shN (b1 b2 : Int) (a : Nat) : Int := lwN (b1 * a) (b2 * 1)
abbrev shD (b1 b2 : Int) (a : Nat) : Int := lwD (b1 * a) (b2 * 1)
/-- what's due of a and b times the root of m -/
inductive Due (a1 a2 b1 b2 : Int) : Nat → PyData → Prop
  | z {m} (h : m = 0 ∨ b1 = 0) (hm : m ≤ 1000000) : Due a1 a2 b1 b2 m (t3 (q2 a1 a2) n0 (.int 1))
  | one {m a} (h : Prt m a 1) (hb : b1 ≠ 0) (hm : m ≤ 1000000) : Due a1 a2 b1 b2 m (t3 (lw (a1 * shD b1 b2 a + shN b1 b2 a * a2) (a2 * shD b1 b2 a)) n0 (.int 1))
  | two {m a u} (h : Prt m a u) (hb : b1 ≠ 0) (hu : u ≠ 1) (hm : m ≤ 1000000) : Due a1 a2 b1 b2 m (t3 (q2 a1 a2) (lw (b1 * a) (b2 * 1)) (.int (u : Int)))
theorem Prt.bds {m a u : Nat} (h : Prt m a u) (hm : m ≤ 1000000) : a ≤ 1000000 ∧ u ≤ 1000000 := by
  constructor
  · refine Nat.le_trans ?_ hm
    rw [← h.eq, Nat.mul_assoc]
    exact Nat.le_mul_of_pos_right _ (Nat.mul_pos h.s1 h.u1)
  · refine Nat.le_trans ?_ hm
    rw [← h.eq]
    exact Nat.le_mul_of_pos_left _ (Nat.mul_pos h.s1 h.s1)
inductive R_rooted : Gr
  | mk {a1 a2 b1 b2 : Int} {m : Nat} {d s} (ha : Lf 300 a1 a2) (hb : Lf 300 b1 b2) (h : Due a1 a2 b1 b2 m d) : R_rooted [.d (q2 a1 a2), .d (q2 b1 b2), .d (.int (m : Int))] s (.d d) s
section
local macro_rules | `(tactic| walk_at "sd") => `(tactic| first | rfl | assumption | exact Nat.le_of_ble_eq_true rfl | decide | omega | (walk_at "sd2"))
local macro_rules | `(tactic| walk_at "sd2") => `(tactic| first | exact cm_sm (by assumption) (by assumption) | exact cf_sm (by assumption) (by assumption) | ((with_reducible apply gs); (walk_at "sd")) | exact cm_fm7 | exact cm_if | exact cm_l (by omega) (by omega) | exact cm_r (by omega) (by omega) | exact cf_c (by omega) (by omega))
local macro_rules | `(tactic| walk_at "isi") => `(tactic| with_reducible first | exact kit_int | exact kit_bool | exact kit_tuple | exact kit_list | exact kit_str)
local macro_rules | `(tactic| walk_at "und") => `(tactic| with_reducible repeat (first | exact Und.nil | apply Und.cons))
local macro_rules | `(tactic| walk_at "op") => `(tactic| (first
  | with_reducible exact o_add | with_reducible exact o_minus | with_reducible exact o_lt | with_reducible exact o_gt | with_reducible exact o_le | with_reducible exact o_ge | with_reducible exact o_neg
  | with_reducible exact o_isN | with_reducible exact o_isntN | with_reducible exact o_isB | with_reducible exact o_isntB | with_reducible exact o_neS | with_reducible exact o_eqS
  | with_reducible exact o_abs | with_reducible exact o_intB | with_reducible exact o_min2 | with_reducible exact o_max2 | with_reducible exact o_lenL | with_reducible exact o_lenT | with_reducible exact o_lenC | with_reducible exact o_gcd
  | with_reducible apply o_ixT | with_reducible apply o_ixL | with_reducible apply o_ixM | with_reducible apply o_ixS | with_reducible apply o_lenM
  | with_reducible apply o_mul | with_reducible apply o_fdiv | with_reducible apply o_mod | with_reducible apply o_pow | with_reducible apply o_eq | with_reducible apply o_ne | with_reducible apply o_catT | with_reducible apply o_repr | with_reducible apply o_all) <;> walk_at "sd")
local macro_rules | `(tactic| walk_at "opn") => `(tactic| (first
  | with_reducible apply o_cat | with_reducible apply o_repI | with_reducible exact o_listT | with_reducible exact o_listL) <;> walk_at "sd")
local macro_rules | `(tactic| walk_at "ea") => `(tactic| first
  | with_reducible exact eva_nil
  | ((with_reducible apply eva_cons); (walk_at "ev"); (walk_at "ea")))
local macro_rules | `(tactic| walk_at "call") => `(tactic| fail)
local macro_rules | `(tactic| walk_at "evn") => `(tactic| first
  | ((with_reducible apply evn_lstU); (walk_at "ea"); (walk_at "und"); (walk_at "sd"))
  | ((with_reducible apply evn_op); (walk_at "ev"); (walk_at "ev"); (walk_at "opn"))
  | ((with_reducible apply evn_cb); (walk_at "ea"); (walk_at "opn"))
  | ((with_reducible apply evn_call); (walk_at "ea"); (walk_at "call")))
local macro_rules | `(tactic| walk_at "ev") => `(tactic| first
  | with_reducible exact ev_int | with_reducible exact ev_bl | with_reducible exact ev_non | with_reducible exact ev_str
  | ((with_reducible apply ev_var); rfl)
  | ((with_reducible apply ev_op); (walk_at "ev"); (walk_at "ev"); (walk_at "op"))
  | ((with_reducible apply ev_un); (walk_at "ev"); (walk_at "op"))
  | ((with_reducible apply ev_call); (walk_at "ea"); (walk_at "call"))
  | ((with_reducible apply ev_callD); (walk_at "ea"); (intro _ _; exact rxs_1); (walk_at "call"))
  | ((with_reducible apply ev_callK); (walk_at "ea"); rfl; (intro _ _ _ hh; first | exact rxs_swap2 hh | exact rxs_same1 hh); (walk_at "call"))
  | ((with_reducible apply ev_isi); (walk_at "ev"); (walk_at "isi"))
  | ((with_reducible apply ev_isi2); (walk_at "ev"); (walk_at "isi"); (walk_at "isi"))
  | ((with_reducible apply ev_cb); (walk_at "ea"); (walk_at "op"))
  | ((with_reducible apply ev_tupU); (walk_at "ea"); (walk_at "und"); (walk_at "sd"))
  | ((with_reducible apply ev_new); (walk_at "evn"))
  | ((with_reducible apply ev_slT); (walk_at "ev"); (walk_at "eo"); (walk_at "eo"))
  | ((with_reducible apply ev_andV); (walk_at "ev"); (intro _; walk_at "ev"); (intro _; rfl))
  | ((with_reducible apply ev_orV); (walk_at "ev"); (intro _; walk_at "ev"); (intro _; rfl))
  | ((with_reducible apply ev_notV); (walk_at "ev")))
local macro_rules | `(tactic| walk_at "eo") => `(tactic| first
  | with_reducible exact eo_none
  | ((with_reducible apply eo_some); (walk_at "ev")))
local macro_rules | `(tactic| walk_at "et") => `(tactic| first
  | ((with_reducible apply et_test); (walk_at "ev"))
  | ((with_reducible apply et_B); (walk_at "ev"))
  | ((with_reducible apply et_not); (walk_at "et"))
  | ((with_reducible apply et_and); (walk_at "et"); (intro _; walk_at "et"); (intro _; rfl))
  | ((with_reducible apply et_or); (walk_at "et"); (intro _; walk_at "et"); (intro _; rfl)))
local macro_rules | `(tactic| walk_at "w") => `(tactic| first
  | (with_reducible apply w_seq)
  | (with_reducible apply w_next)
  | ((with_reducible apply w_asg); (walk_at "ev"))
  | ((with_reducible apply w_ret); (walk_at "ev"))
  | ((with_reducible apply w_drop); (walk_at "ev"))
  | ((with_reducible apply w_par); (walk_at "ea"))
  | ((with_reducible apply w_tup2); (walk_at "ev"))
  | ((with_reducible apply w_tup3); (walk_at "ev"))
  | ((with_reducible apply w_setI); (walk_at "ev"); (walk_at "ev"); (walk_at "ev"); (walk_at "sd"); (walk_at "sd"))
  | ((with_reducible apply w_if); (walk_at "et")))

variable {P : Program} {w : World} {K : Pw.Fg} {mg : Str → Option Value} {base : Heap} {f : Addr} {fd : FuncData} {ζ : ZA}
section
local macro_rules | `(tactic| walk_at "call") => `(tactic| first
  | exact fr_mk (by assumption) (by assumption) (by assumption)
  | exact R_plus.mk (by assumption) (by assumption) (by assumption) (by assumption) (by assumption) (by assumption)
  | exact R_times.mk (by assumption) (by assumption) (by assumption) (by assumption) (by assumption) (by assumption)
  | assumption)
local macro_rules | `(tactic| walk_at "ev") => `(tactic| with_reducible exact ev_tref (Zx.n_NOUGHT (by assumption)))
theorem ok_rooted (Z : Zx K mg ζ) (c__parted : Cb P w K mg base "_parted" 1 [] (spF K R_parted)) (c_times : Cb P w K mg base "times" 2 [] (spF K R_times)) (c_plus : Cb P w K mg base "plus" 2 [] (spF K R_plus)) (c_fracD1 : Cb P w K mg base "frac" 1 [.int 1] (spF K R_frac))
    (G : Fun K "rooted" "rooted" s_rooted f fd) : FnOk P w K mg base CX0 3 f fd ["a", "b", "many"] (spF K R_rooted) := by
  refine G.ok sc_rooted (spF_len fun xs s x s' h => by cases h; rfl) (fun cdv A outer s H vs Q E hr ⟨M, xs, st, x, st', h, So, rx, q⟩ => ?_)
  refine ⟨_, (pss_cons (ps_if (pt_cmpR op_gtA (pv 2) (pe_glob (v := .int 1000000) (by rfl) Z.g_ROOTS ⟨_, rfl⟩) (nomark _)) (pss_one ps_never) pss_nil)
      (pss_cons (ps_asg (pe_cb c__parted (hr.mono (by decide)) (by rfl) (pa_cons (pv 2) pa_nil)) (pgk_tup (K := K) 2 (by rfl) (pgs_cons (pg_name (i := 3) sc_rooted.nd rfl (Or.inl rfl)) (pgs_cons (pg_name (i := 4) sc_rooted.nd rfl (Or.inl rfl)) pgs_nil))))
      (pss_cons (ps_set (i := 5) sc_rooted.nd rfl (.inl rfl) (pe_cb c_times (hr.mono (by decide)) (by rfl) (pa_cons (pv 1) (pa_cons (pe_cb c_fracD1 (hr.mono (by decide)) (by rfl) (pa_cons (pv 3) pa_nil)) pa_nil))))
      (pss_cons (ps_if (pt_cmpR (opk_eq (K := K) hr.units) (pv 4) (pe_int) (nomark _)) (pss_one (ps_ret (pe_tup (pa_cons (pe_cb c_plus (hr.mono (by decide)) (by rfl) (pa_cons (pv 0) (pa_cons (pv 5) pa_nil))) (pa_cons (pe_glob (v := .ref ζ.TN) (by rfl) Z.g_NOUGHT rfl) (pa_cons (pe_int) pa_nil)))))) pss_nil)
      (pss_cons (ps_if (pt_cmpR (opk_eq (K := K) hr.units) (pv 5) (pe_glob (v := .ref ζ.TN) (by rfl) Z.g_NOUGHT rfl) (nomark _)) (pss_one (ps_ret (pe_tup (pa_cons (pv 0) (pa_cons (pe_glob (v := .ref ζ.TN) (by rfl) Z.g_NOUGHT rfl) (pa_cons (pe_int) pa_nil)))))) pss_nil)
      (pss_one (ps_ret (pe_tup (pa_cons (pv 0) (pa_cons (pv 5) (pa_cons (pv 4) pa_nil))))))))))), ?_⟩
  cases h with
  | @mk a1 a2 b1 b2 m d _ ha hb h =>
    refine w_run So rx ?_
    try simp only [nox_K, cx_K, List.map_cons, List.map_nil]
    have q' := okr_0 q So.len
    have ap := ha.pos
    have bp := hb.pos
    obtain ⟨a0, u0, RP, a6, u6, m6, d1, d2, d3⟩ : ∃ a0 u0 : Nat, R_parted [.d (.int (m : Int))] st (.d (q2 a0 u0)) st ∧ a0 ≤ 1000000 ∧ u0 ≤ 1000000 ∧ m ≤ 1000000 ∧
        (u0 = 1 → d = t3 (lw (a1 * shD b1 b2 a0 + shN b1 b2 a0 * a2) (a2 * shD b1 b2 a0)) n0 (.int 1)) ∧ (u0 ≠ 1 → PyData.eqv (lw (b1 * a0) (b2 * 1)) n0 = true → d = t3 (q2 a1 a2) n0 (.int 1)) ∧
        (u0 ≠ 1 → PyData.eqv (lw (b1 * a0) (b2 * 1)) n0 = false → d = t3 (q2 a1 a2) (lw (b1 * a0) (b2 * 1)) (.int (u0 : Int))) := by
      have pl0 : lw (a1 * 1 + 0 * a2) (a2 * 1) = q2 a1 a2 := by rw [Int.mul_one, Int.zero_mul, Int.add_zero, Int.mul_one]; exact lw_isF ha.lo
      have kk : b2 * 1 ≠ 0 := by omega
      cases h with
      | z h hm =>
        by_cases m0 : m = 0
        · subst m0
          have e := lwz kk
          refine ⟨0, 1, .z, by omega, by omega, hm, fun _ => ?_, fun z => absurd rfl z, fun z => absurd rfl z⟩
          show t3 (q2 a1 a2) n0 (.int 1) = t3 (lw (a1 * lwD (b1 * ((0 : Nat) : Int)) (b2 * 1) + lwN (b1 * ((0 : Nat) : Int)) (b2 * 1) * a2) (a2 * lwD (b1 * ((0 : Nat) : Int)) (b2 * 1))) n0 (.int 1)
          rw [show b1 * ((0 : Nat) : Int) = 0 from Int.mul_zero _, e.1, e.2, pl0]
        · have b0 : b1 = 0 := h.resolve_left m0
          subst b0
          obtain ⟨a, u, p⟩ := Prt.ex m m (Nat.le_refl _) (by omega)
          obtain ⟨p1, p2⟩ := Prt.bds p hm
          have e := lwz kk
          refine ⟨a, u, .mk p hm, p1, p2, hm, fun _ => ?_, fun _ _ => rfl, fun _ z => ?_⟩
          · show t3 (q2 a1 a2) n0 (.int 1) = t3 (lw (a1 * lwD (0 * (a : Int)) (b2 * 1) + lwN (0 * (a : Int)) (b2 * 1) * a2) (a2 * lwD (0 * (a : Int)) (b2 * 1))) n0 (.int 1)
            rw [Int.zero_mul, e.1, e.2, pl0]
          · rw [Int.zero_mul] at z
            have : lw 0 (b2 * 1) = n0 := by
              show PyData.tuple [.int (lwN 0 (b2 * 1)), .int (lwD 0 (b2 * 1))] = _
              rw [e.1, e.2]
            rw [this] at z
            cases z
      | @one a h hb0 hm =>
        obtain ⟨p1, p2⟩ := Prt.bds h hm
        exact ⟨a, 1, .mk h hm, p1, p2, hm, fun _ => rfl, fun z => absurd rfl z, fun z => absurd rfl z⟩
      | @two a u h hb0 hu hm =>
        obtain ⟨p1, p2⟩ := Prt.bds h hm
        refine ⟨a, u, .mk h hm, p1, p2, hm, fun z => absurd z hu, fun _ z => ?_, fun _ _ => rfl⟩
        have := lwN_nz (u := b1 * a) (v := b2 * 1) (Int.mul_ne_zero hb0 (by have := h.s1; omega)) kk
        have z' : ((lwN (b1 * a) (b2 * 1) == 0) && ((lwD (b1 * a) (b2 * 1) == 1) && true)) = true := z
        rw [Bool.and_eq_true, beq_iff_eq] at z'
        exact absurd z'.1 this
    have z1 : Sm 20 (a0 : Int) := smn 1000000 a6
    have z2 : Sm 1 (1 : Int) := .of 1 (by decide)
    have k1 : (1 : Int) ≠ 0 := by decide
    have zb1 : Sm 1000 b1 := hb.sa.mono
    have zb2 : Sm 1000 b2 := hb.sb.mono
    have za1 : Sm 1000 a1 := ha.sa.mono
    have za2 : Sm 1000 a2 := ha.sb.mono
    have kb : b2 ≠ 0 := by omega
    have ka : a2 ≠ 0 := by omega
    have e1 := lw_one (u := (a0 : Int))
    have y1 : Sm 1000 (lwN (a0 : Int) 1) := by rw [e1.1]; exact z1.mono
    have y2 : Sm 1000 (lwD (a0 : Int) 1) := by rw [e1.2]; exact z2.mono
    have y3 : lwD (a0 : Int) 1 ≠ 0 := by rw [e1.2]; exact k1
    have kk : b2 * 1 ≠ 0 := by omega
    have sh : Lf 400 (shN b1 b2 a0) (shD b1 b2 a0) := Lf.lw (n := 320) (m := 301) kk (hb.sa.mul z1) (hb.sb.mul z2)
    have sp := sh.pos
    have v1 : Sm 1000 (shN b1 b2 a0) := sh.sa.mono
    have v2 : Sm 1000 (shD b1 b2 a0) := sh.sb.mono
    have v3 : shD b1 b2 a0 ≠ 0 := by omega
    iterate 2 (walk_at "w")
    · intro c
      have := of_decide_eq_true c
      omega
    · intro _
      iterate 5 (walk_at "w")
      rw [e1.1, e1.2]
      walk_at "w"
      walk_at "w"
      · intro c
        rw [eqv_ii] at c
        have := of_decide_eq_true c
        rw [d1 (by omega)] at q'
        walk_at "w"
        exact q'
      · intro c
        rw [eqv_ii] at c
        have := of_decide_eq_false c
        have un : u0 ≠ 1 := by omega
        iterate 3 (walk_at "w")
        · intro c2
          rw [d2 un c2] at q'
          walk_at "w"
          exact q'
        · intro c2
          rw [d3 un c2] at q'
          iterate 2 (walk_at "w")
          exact q'
end
end
end K04
namespace K04
open PySem L2 Pw Km
theorem sm1 {n m : Nat} {i : Int} (h : Sm n i) (e : n ≤ m := by decide) : Sm m i := h.mono e
inductive R_square : Gr
  | mk {b1 b2 u : Int} {s} (hb : b2 ≠ 0) (s1 : Sm 480 b1) (s2 : Sm 480 b2) (su : Sm 20 u) : R_square [.d (q2 b1 b2), .d (.int u)] s (.d (q2 (sqN b1 b2 u) (sqD b1 b2 u))) s
inductive R_sgn : Gr
  | mk {a1 a2 b1 b2 u : Int} {s} (pa : 0 < a2) (pb : 0 < b2) (s1 : Sm 480 a1) (s2 : Sm 480 a2) (s3 : Sm 480 b1) (s4 : Sm 480 b2) (su : Sm 20 u) : R_sgn [.d (q2 a1 a2), .d (q2 b1 b2), .d (.int u)] s (.d (.int (sg2 (a1 * b2) (b1 * a2) u))) s
inductive R_three : Gr
  | mk {a1 a2 b1 b2 u c1 c2 v : Int} {s} (pa : 0 < a2) (pb : 0 < b2) (pc : 0 < c2) (s1 : Sm 130 a1) (s2 : Sm 130 a2) (s3 : Sm 10 b1) (s4 : Sm 10 b2) (su : Sm 20 u) (s5 : Sm 10 c1) (s6 : Sm 10 c2) (sv : Sm 20 v) :
    R_three [.d (q2 a1 a2), .d (q2 b1 b2), .d (.int u), .d (q2 c1 c2), .d (.int v)] s (.d (.int (sg3 (a1 * b2 * c2) (b1 * a2 * c2) u (c1 * a2 * b2) v))) s
inductive R_rsign : Gr
  | mk {a1 a2 b1 b2 u : Int} {s} (pa : 0 < a2) (pb : 0 < b2) (s1 : Sm 480 a1) (s2 : Sm 480 a2) (s3 : Sm 480 b1) (s4 : Sm 480 b2) (su : Sm 20 u) : R_rsign [.d (t3 (q2 a1 a2) (q2 b1 b2) (.int u))] s (.d (.int (sg2 (a1 * b2) (b1 * a2) u))) s
inductive R_less : Gr
  | mk {a1 a2 b1 b2 u c1 c2 d1 d2 v : Int} {s} {n m : Nat} (hnm : n + m + 1 ≤ 130) (pa : 0 < a2) (pb : 0 < b2) (pc : 0 < c2) (pd : 0 < d2) (s1 : Sm n a1) (s2 : Sm n a2) (s3 : Sm 5 b1) (s4 : Sm 5 b2) (su : Sm 20 u) (s5 : Sm m c1) (s6 : Sm m c2) (s7 : Sm 5 d1) (s8 : Sm 5 d2) (sv : Sm 20 v) :
    R_less [.d (t3 (q2 a1 a2) (q2 b1 b2) (.int u)), .d (t3 (q2 c1 c2) (q2 d1 d2) (.int v))] s (.d (.bool (decide (sg3 ((a1 * c2 - c1 * a2) * (b2 * d2)) (b1 * (a2 * c2 * d2)) u (-d1 * (a2 * c2 * b2)) v < 0)))) s
theorem sm_lw {n m : Nat} {u v : Int} (h : v ≠ 0) (hu : Sm n u) (hv : Sm m v) (k : Nat) (hn : n ≤ k := by decide) (hm : m ≤ k := by decide) : Sm k (lwN u v) ∧ Sm k (lwD u v) := ⟨(hu.mono hn).le (lwN_le h), (hv.mono hm).le (lwD_le h)⟩
theorem sm_lw2 {n m : Nat} {u v : Int} (h : v ≠ 0) (hu : Sm n u) (hv : Sm m v) : Sm n (lwN u v) ∧ Sm m (lwD u v) := ⟨hu.le (lwN_le h), hv.le (lwD_le h)⟩
theorem sq_sm {n : Nat} {b1 b2 u : Int} (hb : 0 < b2) (s1 : Sm n b1) (s2 : Sm n b2) (su : Sm 20 u) : Sm (n + n + 20) (sqN b1 b2 u) ∧ Sm (n + n) (sqD b1 b2 u) := by
  have bb := Int.mul_pos hb hb
  obtain ⟨x1, x2⟩ := sm_lw2 (u := b1 * b1) (show b2 * b2 ≠ 0 by omega) (s1.mul s1) (s2.mul s2)
  exact sm_lw2 (by have := lwD_pos (u := b1 * b1) (v := b2 * b2) (by omega); omega) (x1.mul su) x2
section
local macro_rules | `(tactic| walk_at "sd") => `(tactic| first | rfl | assumption | exact Nat.le_of_ble_eq_true rfl | decide | omega | (walk_at "sd2"))
local macro_rules | `(tactic| walk_at "sd2") => `(tactic| first | exact cm_sm (by assumption) (by assumption) | exact cf_sm (by assumption) (by assumption) | ((with_reducible apply gs); (walk_at "sd")) | exact cm_fm7 | exact cm_if | exact cm_l (by omega) (by omega) | exact cm_r (by omega) (by omega) | exact cf_c (by omega) (by omega))
local macro_rules | `(tactic| walk_at "isi") => `(tactic| with_reducible first | exact kit_int | exact kit_bool | exact kit_tuple | exact kit_list | exact kit_str)
local macro_rules | `(tactic| walk_at "und") => `(tactic| with_reducible repeat (first | exact Und.nil | apply Und.cons))
local macro_rules | `(tactic| walk_at "op") => `(tactic| (first
  | with_reducible exact o_add | with_reducible exact o_minus | with_reducible exact o_lt | with_reducible exact o_gt | with_reducible exact o_le | with_reducible exact o_ge | with_reducible exact o_neg
  | with_reducible exact o_isN | with_reducible exact o_isntN | with_reducible exact o_isB | with_reducible exact o_isntB | with_reducible exact o_neS | with_reducible exact o_eqS
  | with_reducible exact o_abs | with_reducible exact o_intB | with_reducible exact o_min2 | with_reducible exact o_max2 | with_reducible exact o_lenL | with_reducible exact o_lenT | with_reducible exact o_lenC | with_reducible exact o_gcd
  | with_reducible apply o_ixT | with_reducible apply o_ixL | with_reducible apply o_ixM | with_reducible apply o_ixS | with_reducible apply o_lenM
  | with_reducible apply o_mul | with_reducible apply o_fdiv | with_reducible apply o_mod | with_reducible apply o_pow | with_reducible apply o_eq | with_reducible apply o_ne | with_reducible apply o_catT | with_reducible apply o_repr | with_reducible apply o_all) <;> walk_at "sd")
local macro_rules | `(tactic| walk_at "opn") => `(tactic| (first
  | with_reducible apply o_cat | with_reducible apply o_repI | with_reducible exact o_listT | with_reducible exact o_listL) <;> walk_at "sd")
local macro_rules | `(tactic| walk_at "ea") => `(tactic| first
  | with_reducible exact eva_nil
  | ((with_reducible apply eva_cons); (walk_at "ev"); (walk_at "ea")))
local macro_rules | `(tactic| walk_at "call") => `(tactic| fail)
local macro_rules | `(tactic| walk_at "evn") => `(tactic| first
  | ((with_reducible apply evn_lstU); (walk_at "ea"); (walk_at "und"); (walk_at "sd"))
  | ((with_reducible apply evn_op); (walk_at "ev"); (walk_at "ev"); (walk_at "opn"))
  | ((with_reducible apply evn_cb); (walk_at "ea"); (walk_at "opn"))
  | ((with_reducible apply evn_call); (walk_at "ea"); (walk_at "call")))
local macro_rules | `(tactic| walk_at "ev") => `(tactic| first
  | with_reducible exact ev_int | with_reducible exact ev_bl | with_reducible exact ev_non | with_reducible exact ev_str
  | ((with_reducible apply ev_var); rfl)
  | ((with_reducible apply ev_op); (walk_at "ev"); (walk_at "ev"); (walk_at "op"))
  | ((with_reducible apply ev_un); (walk_at "ev"); (walk_at "op"))
  | ((with_reducible apply ev_call); (walk_at "ea"); (walk_at "call"))
  | ((with_reducible apply ev_callD); (walk_at "ea"); (intro _ _; exact rxs_1); (walk_at "call"))
  | ((with_reducible apply ev_callK); (walk_at "ea"); rfl; (intro _ _ _ hh; first | exact rxs_swap2 hh | exact rxs_same1 hh); (walk_at "call"))
  | ((with_reducible apply ev_isi); (walk_at "ev"); (walk_at "isi"))
  | ((with_reducible apply ev_isi2); (walk_at "ev"); (walk_at "isi"); (walk_at "isi"))
  | ((with_reducible apply ev_cb); (walk_at "ea"); (walk_at "op"))
  | ((with_reducible apply ev_tupU); (walk_at "ea"); (walk_at "und"); (walk_at "sd"))
  | ((with_reducible apply ev_new); (walk_at "evn"))
  | ((with_reducible apply ev_slT); (walk_at "ev"); (walk_at "eo"); (walk_at "eo"))
  | ((with_reducible apply ev_andV); (walk_at "ev"); (intro _; walk_at "ev"); (intro _; rfl))
  | ((with_reducible apply ev_orV); (walk_at "ev"); (intro _; walk_at "ev"); (intro _; rfl))
  | ((with_reducible apply ev_notV); (walk_at "ev")))
local macro_rules | `(tactic| walk_at "eo") => `(tactic| first
  | with_reducible exact eo_none
  | ((with_reducible apply eo_some); (walk_at "ev")))
local macro_rules | `(tactic| walk_at "et") => `(tactic| first
  | ((with_reducible apply et_test); (walk_at "ev"))
  | ((with_reducible apply et_B); (walk_at "ev"))
  | ((with_reducible apply et_not); (walk_at "et"))
  | ((with_reducible apply et_and); (walk_at "et"); (intro _; walk_at "et"); (intro _; rfl))
  | ((with_reducible apply et_or); (walk_at "et"); (intro _; walk_at "et"); (intro _; rfl)))
local macro_rules | `(tactic| walk_at "w") => `(tactic| first
  | (with_reducible apply w_seq)
  | (with_reducible apply w_next)
  | ((with_reducible apply w_asg); (walk_at "ev"))
  | ((with_reducible apply w_ret); (walk_at "ev"))
  | ((with_reducible apply w_drop); (walk_at "ev"))
  | ((with_reducible apply w_par); (walk_at "ea"))
  | ((with_reducible apply w_tup2); (walk_at "ev"))
  | ((with_reducible apply w_tup3); (walk_at "ev"))
  | ((with_reducible apply w_setI); (walk_at "ev"); (walk_at "ev"); (walk_at "ev"); (walk_at "sd"); (walk_at "sd"))
  | ((with_reducible apply w_if); (walk_at "et")))

variable {P : Program} {w : World} {K : Pw.Fg} {mg : Str → Option Value} {base : Heap} {f : Addr} {fd : FuncData} {ζ : ZA}
section
local macro_rules | `(tactic| walk_at "call") => `(tactic| first
  | exact fr_mk (by assumption) (by assumption) (by assumption)
  | exact R_sign.mk
  | exact R_plus.mk (by assumption) (by assumption) (by assumption) (by assumption) (by assumption) (by assumption)
  | exact R_minus.mk (by assumption) (by assumption) (by assumption) (by assumption) (by assumption) (by assumption)
  | exact R_times.mk (by assumption) (by assumption) (by assumption) (by assumption) (by assumption) (by assumption)
  | assumption)
theorem ok_square (c_times : Cb P w K mg base "times" 2 [] (spF K R_times)) (c_fracD1 : Cb P w K mg base "frac" 1 [.int 1] (spF K R_frac)) (G : Fun K "_square" "_square" s__square f fd) : FnOk P w K mg base CX0 3 f fd ["b", "under"] (spF K R_square) := by
  refine G.ok sc__square (spF_len fun xs s x s' h => by cases h; rfl) (fun cdv A outer s H vs Q E hr ⟨M, xs, st, x, st', h, So, rx, q⟩ => ?_)
  cases h with
  | @mk b1 b2 u _ hb s1 s2 su =>
  refine ⟨_, (pss_one (ps_ret (pe_cb c_times (hr.mono (by decide)) (by rfl) (pa_cons (pe_cb c_times (hr.mono (by decide)) (by rfl) (pa_cons (pv 0) (pa_cons (pv 0) pa_nil))) (pa_cons (pe_cb c_fracD1 (hr.mono (by decide)) (by rfl) (pa_cons (pv 1) pa_nil)) pa_nil))))), ?_⟩
  refine w_run So rx ?_
  try simp only [nox_K, cx_K, List.map_cons, List.map_nil]
  have q' := okr_0 q So.len
  have z1 : Sm 1000 b1 := s1.mono
  have z2 : Sm 1000 b2 := s2.mono
  have k0 : b2 * b2 ≠ 0 := Int.mul_ne_zero hb hb
  obtain ⟨x1, x2⟩ := sm_lw k0 (s1.mul s1) (s2.mul s2) 1000
  have e1 := lw_one (u := u)
  have u1 : Sm 1 (1 : Int) := .of 1 (by decide)
  have kn : (1 : Int) ≠ 0 := by decide
  have x3 : Sm 1000 (lwN u 1) := by rw [e1.1]; exact su.mono
  have x4 : Sm 1000 (lwD u 1) := by rw [e1.2]; exact u1.mono
  have k1 : lwD (b1 * b1) (b2 * b2) ≠ 0 := by have := lwD_pos (u := b1 * b1) k0; omega
  have k2 : lwD u 1 ≠ 0 := by rw [e1.2]; decide
  walk_at "w"
  refine q'.is ?_
  rw [e1.1, e1.2, Int.mul_one]
theorem sg2_if {a b u z : Int} : (if sgn a = 0 then sgn b else if sgn b = 0 ∨ sgn a = sgn b then sgn a else z) = if sgn a = 0 then sgn b else if sgn b = 0 ∨ sgn a = sgn b then sgn a else z := rfl
theorem ok_sgn (c_sign_of : Cb P w K mg base "sign_of" 1 [] (spF K R_sign)) (c_times : Cb P w K mg base "times" 2 [] (spF K R_times)) (c_minus : Cb P w K mg base "minus" 2 [] (spF K R_minus)) (c__square : Cb P w K mg base "_square" 3 [] (spF K R_square)) (G : Fun K "_sign" "_sign" s__sign f fd) : FnOk P w K mg base CX0 4 f fd ["a", "b", "under"] (spF K R_sgn) := by
  refine G.ok sc__sign (spF_len fun xs s x s' h => by cases h; rfl) (fun cdv A outer s H vs Q E hr ⟨M, xs, st, x, st', h, So, rx, q⟩ => ?_)
  cases h with
  | @mk a1 a2 b1 b2 u _ pa pb s1 s2 s3 s4 su =>
  refine ⟨_, (pss_cons (ps_set (i := 3) sc__sign.nd rfl (.inl rfl) (pe_cb c_sign_of (hr.mono (by decide)) (by rfl) (pa_cons (pv 0) pa_nil)))
      (pss_cons (ps_set (i := 4) sc__sign.nd rfl (.inl rfl) (pe_cb c_sign_of (hr.mono (by decide)) (by rfl) (pa_cons (pv 1) pa_nil)))
      (pss_cons (ps_if (pt_cmpR (opk_eq (K := K) hr.units) (pv 3) (pe_int) (nomark _)) (pss_one (ps_ret (pv 4))) pss_nil)
      (pss_cons (ps_if (PW.pt (pw_or (pt_cmpR (opk_eq (K := K) hr.units) (pv 4) (pe_int) (nomark _)) (pw_or1 (pt_cmpR (opk_eq (K := K) hr.units) (pv 3) (pv 4) (nomark _))))) (pss_one (ps_ret (pv 3))) pss_nil)
      (pss_one (ps_ret (pe_op op_times (pv 3) (pe_cb c_sign_of (hr.mono (by decide)) (by rfl) (pa_cons (pe_cb c_minus (hr.mono (by decide)) (by rfl) (pa_cons (pe_cb c_times (hr.mono (by decide)) (by rfl) (pa_cons (pv 0) (pa_cons (pv 0) pa_nil))) (pa_cons (pe_cb c__square (hr.mono (by decide)) (by rfl) (pa_cons (pv 1) (pa_cons (pv 2) pa_nil))) pa_nil))) pa_nil))))))))), ?_⟩
  refine w_run So rx ?_
  try simp only [nox_K, cx_K, List.map_cons, List.map_nil]
  have q' := okr_0 q So.len
  rw [sg2_df pa pb] at q'
  have SA : R_sign [.d (q2 a1 a2)] st (.d (.int (sgn a1))) st := .mk
  have SB : R_sign [.d (q2 b1 b2)] st (.d (.int (sgn b1))) st := .mk
  have ka : a2 ≠ 0 := by omega
  have kb : b2 ≠ 0 := by omega
  have z1 : Sm 1000 a1 := s1.mono
  have z2 : Sm 1000 a2 := s2.mono
  have k0 : a2 * a2 ≠ 0 := Int.mul_ne_zero ka ka
  obtain ⟨x1, x2⟩ := sm_lw k0 (s1.mul s1) (s2.mul s2) 1000
  have k1 : lwD (a1 * a1) (a2 * a2) ≠ 0 := by have := lwD_pos (u := a1 * a1) k0; omega
  obtain ⟨x3, x4⟩ := sq_sm (b1 := b1) pb s3 s4 su
  have x3 : Sm 1000 (sqN b1 b2 u) := x3.mono
  have x4 : Sm 1000 (sqD b1 b2 u) := x4.mono
  have k2 : sqD b1 b2 u ≠ 0 := by have := sqD_pos (b1 := b1) (u := u) pb; omega
  have SQ : R_square [.d (q2 b1 b2), .d (.int u)] st (.d (q2 (sqN b1 b2 u) (sqD b1 b2 u))) st := .mk kb s3 s4 su
  have D : R_sign [.d (lw (lwN (a1 * a1) (a2 * a2) * sqD b1 b2 u - sqN b1 b2 u * lwD (a1 * a1) (a2 * a2)) (lwD (a1 * a1) (a2 * a2) * sqD b1 b2 u))] st (.d (.int (sgn (dfN a1 a2 b1 b2 u)))) st := .mk
  have cm : CM (sgn a1) (sgn (dfN a1 a2 b1 b2 u)) := by
    rcases sgn_c a1 with ⟨_, e⟩ | ⟨_, e⟩ | ⟨_, e⟩ <;> rw [e] <;> exact cm_l (by decide) (by decide)
  walk_at "w"
  with_reducible apply w_asg
  · with_reducible apply ev_call
    · walk_at "ea"
    · exact SA
  walk_at "w"
  with_reducible apply w_asg
  · with_reducible apply ev_call
    · walk_at "ea"
    · exact SB
  iterate 2 (walk_at "w")
  · intro c
    rw [eqv_ii] at c
    rw [if_pos (of_decide_eq_true c)] at q'
    walk_at "w"
    exact q'
  · intro c
    rw [eqv_ii] at c
    rw [if_neg (of_decide_eq_false c)] at q'
    iterate 3 (walk_at "w")
    · intro c2
      rw [eqv_ii, eqv_ii] at c2
      rw [if_pos (by simpa using c2)] at q'
      walk_at "w"
      exact q'
    · intro c2
      rw [eqv_ii, eqv_ii] at c2
      rw [if_neg (by simpa using c2)] at q'
      iterate 2 (walk_at "w")
      exact q'
end
end
end K04
namespace K04
open PySem L2 Pw Km
section
local macro_rules | `(tactic| walk_at "sd") => `(tactic| first | rfl | assumption | exact Nat.le_of_ble_eq_true rfl | decide | omega | (walk_at "sd2"))
local macro_rules | `(tactic| walk_at "sd2") => `(tactic| first | exact cm_sm (by assumption) (by assumption) | exact cf_sm (by assumption) (by assumption) | ((with_reducible apply gs); (walk_at "sd")) | exact cm_fm7 | exact cm_if | exact cm_l (by omega) (by omega) | exact cm_r (by omega) (by omega) | exact cf_c (by omega) (by omega))
local macro_rules | `(tactic| walk_at "isi") => `(tactic| with_reducible first | exact kit_int | exact kit_bool | exact kit_tuple | exact kit_list | exact kit_str)
local macro_rules | `(tactic| walk_at "und") => `(tactic| with_reducible repeat (first | exact Und.nil | apply Und.cons))
local macro_rules | `(tactic| walk_at "op") => `(tactic| (first
  | with_reducible exact o_add | with_reducible exact o_minus | with_reducible exact o_lt | with_reducible exact o_gt | with_reducible exact o_le | with_reducible exact o_ge | with_reducible exact o_neg
  | with_reducible exact o_isN | with_reducible exact o_isntN | with_reducible exact o_isB | with_reducible exact o_isntB | with_reducible exact o_neS | with_reducible exact o_eqS
  | with_reducible exact o_abs | with_reducible exact o_intB | with_reducible exact o_min2 | with_reducible exact o_max2 | with_reducible exact o_lenL | with_reducible exact o_lenT | with_reducible exact o_lenC | with_reducible exact o_gcd
  | with_reducible apply o_ixT | with_reducible apply o_ixL | with_reducible apply o_ixM | with_reducible apply o_ixS | with_reducible apply o_lenM
  | with_reducible apply o_mul | with_reducible apply o_fdiv | with_reducible apply o_mod | with_reducible apply o_pow | with_reducible apply o_eq | with_reducible apply o_ne | with_reducible apply o_catT | with_reducible apply o_repr | with_reducible apply o_all) <;> walk_at "sd")
local macro_rules | `(tactic| walk_at "opn") => `(tactic| (first
  | with_reducible apply o_cat | with_reducible apply o_repI | with_reducible exact o_listT | with_reducible exact o_listL) <;> walk_at "sd")
local macro_rules | `(tactic| walk_at "ea") => `(tactic| first
  | with_reducible exact eva_nil
  | ((with_reducible apply eva_cons); (walk_at "ev"); (walk_at "ea")))
local macro_rules | `(tactic| walk_at "call") => `(tactic| fail)
local macro_rules | `(tactic| walk_at "evn") => `(tactic| first
  | ((with_reducible apply evn_lstU); (walk_at "ea"); (walk_at "und"); (walk_at "sd"))
  | ((with_reducible apply evn_op); (walk_at "ev"); (walk_at "ev"); (walk_at "opn"))
  | ((with_reducible apply evn_cb); (walk_at "ea"); (walk_at "opn"))
  | ((with_reducible apply evn_call); (walk_at "ea"); (walk_at "call")))
local macro_rules | `(tactic| walk_at "ev") => `(tactic| first
  | with_reducible exact ev_int | with_reducible exact ev_bl | with_reducible exact ev_non | with_reducible exact ev_str
  | ((with_reducible apply ev_var); rfl)
  | ((with_reducible apply ev_op); (walk_at "ev"); (walk_at "ev"); (walk_at "op"))
  | ((with_reducible apply ev_un); (walk_at "ev"); (walk_at "op"))
  | ((with_reducible apply ev_call); (walk_at "ea"); (walk_at "call"))
  | ((with_reducible apply ev_callD); (walk_at "ea"); (intro _ _; exact rxs_1); (walk_at "call"))
  | ((with_reducible apply ev_callK); (walk_at "ea"); rfl; (intro _ _ _ hh; first | exact rxs_swap2 hh | exact rxs_same1 hh); (walk_at "call"))
  | ((with_reducible apply ev_isi); (walk_at "ev"); (walk_at "isi"))
  | ((with_reducible apply ev_isi2); (walk_at "ev"); (walk_at "isi"); (walk_at "isi"))
  | ((with_reducible apply ev_cb); (walk_at "ea"); (walk_at "op"))
  | ((with_reducible apply ev_tupU); (walk_at "ea"); (walk_at "und"); (walk_at "sd"))
  | ((with_reducible apply ev_new); (walk_at "evn"))
  | ((with_reducible apply ev_slT); (walk_at "ev"); (walk_at "eo"); (walk_at "eo"))
  | ((with_reducible apply ev_andV); (walk_at "ev"); (intro _; walk_at "ev"); (intro _; rfl))
  | ((with_reducible apply ev_orV); (walk_at "ev"); (intro _; walk_at "ev"); (intro _; rfl))
  | ((with_reducible apply ev_notV); (walk_at "ev")))
local macro_rules | `(tactic| walk_at "eo") => `(tactic| first
  | with_reducible exact eo_none
  | ((with_reducible apply eo_some); (walk_at "ev")))
local macro_rules | `(tactic| walk_at "et") => `(tactic| first
  | ((with_reducible apply et_test); (walk_at "ev"))
  | ((with_reducible apply et_B); (walk_at "ev"))
  | ((with_reducible apply et_not); (walk_at "et"))
  | ((with_reducible apply et_and); (walk_at "et"); (intro _; walk_at "et"); (intro _; rfl))
  | ((with_reducible apply et_or); (walk_at "et"); (intro _; walk_at "et"); (intro _; rfl)))
local macro_rules | `(tactic| walk_at "w") => `(tactic| first
  | (with_reducible apply w_seq)
  | (with_reducible apply w_next)
  | ((with_reducible apply w_asg); (walk_at "ev"))
  | ((with_reducible apply w_ret); (walk_at "ev"))
  | ((with_reducible apply w_drop); (walk_at "ev"))
  | ((with_reducible apply w_par); (walk_at "ea"))
  | ((with_reducible apply w_tup2); (walk_at "ev"))
  | ((with_reducible apply w_tup3); (walk_at "ev"))
  | ((with_reducible apply w_setI); (walk_at "ev"); (walk_at "ev"); (walk_at "ev"); (walk_at "sd"); (walk_at "sd"))
  | ((with_reducible apply w_if); (walk_at "et")))

variable {P : Program} {w : World} {K : Pw.Fg} {mg : Str → Option Value} {base : Heap} {f : Addr} {fd : FuncData} {ζ : ZA}
section
local macro_rules | `(tactic| walk_at "call") => `(tactic| first
  | exact fr_mk (by assumption) (by assumption) (by assumption)
  | exact R_sign.mk
  | exact R_plus.mk (by assumption) (by assumption) (by assumption) (by assumption) (by assumption) (by assumption)
  | exact R_minus.mk (by assumption) (by assumption) (by assumption) (by assumption) (by assumption) (by assumption)
  | exact R_times.mk (by assumption) (by assumption) (by assumption) (by assumption) (by assumption) (by assumption)
  | assumption)
local macro_rules | `(tactic| walk_at "ev") => `(tactic| with_reducible exact ev_tref (Zx.n_NOUGHT (by assumption)))
theorem sg_cm {x y : Int} (h : x = 1 ∨ x = -1 ∨ x = 0) : CM x y := by
  rcases h with e | e | e <;> rw [e] <;> exact cm_l (by decide) (by decide)
theorem ok_three (c_sign_of : Cb P w K mg base "sign_of" 1 [] (spF K R_sign)) (c_times : Cb P w K mg base "times" 2 [] (spF K R_times)) (c_minus : Cb P w K mg base "minus" 2 [] (spF K R_minus)) (c_plus : Cb P w K mg base "plus" 2 [] (spF K R_plus)) (c_fracD1 : Cb P w K mg base "frac" 1 [.int 1] (spF K R_frac)) (c__square : Cb P w K mg base "_square" 3 [] (spF K R_square)) (c__sign : Cb P w K mg base "_sign" 4 [] (spF K R_sgn))
    (G : Fun K "_sign_of_three" "_sign_of_three" s__sign_of_three f fd) : FnOk P w K mg base CX0 5 f fd ["a", "b", "under", "c", "deeper"] (spF K R_three) := by
  refine G.ok sc__sign_of_three (spF_len fun xs s x s' h => by cases h; rfl) (fun cdv A outer s H vs Q E hr ⟨M, xs, st, x, st', h, So, rx, q⟩ => ?_)
  cases h with
  | @mk a1 a2 b1 b2 u c1 c2 v _ pa pb pc s1 s2 s3 s4 su s5 s6 sv =>
  refine ⟨_, (pss_cons (ps_set (i := 5) sc__sign_of_three.nd rfl (.inl rfl) (pe_cb c__sign (hr.mono (by decide)) (by rfl) (pa_cons (pv 0) (pa_cons (pv 1) (pa_cons (pv 2) pa_nil)))))
      (pss_cons (ps_set (i := 6) sc__sign_of_three.nd rfl (.inl rfl) (pe_cb c_sign_of (hr.mono (by decide)) (by rfl) (pa_cons (pv 3) pa_nil)))
      (pss_cons (ps_if (pt_cmpR (opk_eq (K := K) hr.units) (pv 5) (pe_int) (nomark _)) (pss_one (ps_ret (pv 6))) pss_nil)
      (pss_cons (ps_if (PW.pt (pw_or (pt_cmpR (opk_eq (K := K) hr.units) (pv 6) (pe_int) (nomark _)) (pw_or1 (pt_cmpR (opk_eq (K := K) hr.units) (pv 5) (pv 6) (nomark _))))) (pss_one (ps_ret (pv 5))) pss_nil)
      (pss_cons (ps_set (i := 7) sc__sign_of_three.nd rfl (.inl rfl) (pe_cb c_minus (hr.mono (by decide)) (by rfl) (pa_cons (pe_cb c_plus (hr.mono (by decide)) (by rfl) (pa_cons (pe_cb c_times (hr.mono (by decide)) (by rfl) (pa_cons (pv 0) (pa_cons (pv 0) pa_nil))) (pa_cons (pe_cb c__square (hr.mono (by decide)) (by rfl) (pa_cons (pv 1) (pa_cons (pv 2) pa_nil))) pa_nil))) (pa_cons (pe_cb c__square (hr.mono (by decide)) (by rfl) (pa_cons (pv 3) (pa_cons (pv 4) pa_nil))) pa_nil))))
      (pss_cons (ps_set (i := 8) sc__sign_of_three.nd rfl (.inl rfl) (pe_cb c_times (hr.mono (by decide)) (by rfl) (pa_cons (pe_cb c_fracD1 (hr.mono (by decide)) (by rfl) (pa_cons (pe_int) pa_nil)) (pa_cons (pe_cb c_times (hr.mono (by decide)) (by rfl) (pa_cons (pv 0) (pa_cons (pv 1) pa_nil))) pa_nil))))
      (pss_one (ps_ret (pe_op op_times (pv 5) (pe_cb c__sign (hr.mono (by decide)) (by rfl) (pa_cons (pv 7) (pa_cons (pv 8) (pa_cons (pv 2) pa_nil))))))))))))), ?_⟩
  refine w_run So rx ?_
  try simp only [nox_K, cx_K, List.map_cons, List.map_nil]
  have q' := okr_0 q So.len
  rw [sg3_df pa pb pc] at q'
  have SA : R_sgn [.d (q2 a1 a2), .d (q2 b1 b2), .d (.int u)] st (.d (.int (sg2 (a1 * b2) (b1 * a2) u))) st := .mk pa pb s1.mono s2.mono s3.mono s4.mono su
  have SB : R_sign [.d (q2 c1 c2)] st (.d (.int (sgn c1))) st := .mk
  have ka : a2 ≠ 0 := by omega
  have kb : b2 ≠ 0 := by omega
  have kc : c2 ≠ 0 := by omega
  have z1 : Sm 1000 a1 := s1.mono
  have z2 : Sm 1000 a2 := s2.mono
  have z3 : Sm 1000 b1 := s3.mono
  have z4 : Sm 1000 b2 := s4.mono
  have k0 : a2 * a2 ≠ 0 := Int.mul_ne_zero ka ka
  have t0 : 0 < lwD (a1 * a1) (a2 * a2) := lwD_pos (by omega)
  have q0 := sqD_pos (b1 := b1) (u := u) pb
  have r0 := sqD_pos (b1 := c1) (u := v) pc
  have p0 := psD_pos (a1 := a1) (b1 := b1) (u := u) pa pb
  obtain ⟨x1, x2⟩ := sm_lw2 (u := a1 * a1) k0 (s1.mul s1) (s2.mul s2)
  obtain ⟨x3, x4⟩ := sq_sm (b1 := b1) pb s3 s4 su
  obtain ⟨x5, x6⟩ := sq_sm (b1 := c1) pc s5 s6 sv
  have ts := Int.mul_pos t0 q0
  obtain ⟨x7, x8⟩ : Sm 301 (psN a1 a2 b1 b2 u) ∧ Sm 301 (psD a1 a2 b1 b2 u) := sm_lw (by omega) (((x1.mul x4).mono (m := 300)).add (x3.mul x2)) (x2.mul x4) 301
  have pr := Int.mul_pos p0 r0
  obtain ⟨x9, xA⟩ : Sm 480 (alN a1 a2 b1 b2 u c1 c2 v) ∧ Sm 480 (alD a1 a2 b1 b2 u c1 c2 v) := sm_lw (by omega) (((x7.mul x6).mono (m := 341)).sub (x5.mul x8)) (x8.mul x6) 480
  have ab := Int.mul_pos pa pb
  have m0 : 0 < lwD (a1 * b1) (a2 * b2) := lwD_pos (by omega)
  obtain ⟨y1, y2⟩ := sm_lw2 (u := a1 * b1) (show a2 * b2 ≠ 0 by omega) (s1.mul s3) (s2.mul s4)
  have w2 : Sm 2 (2 : Int) := .of 2 (by decide)
  have w1 : Sm 1 (1 : Int) := .of 1 (by decide)
  obtain ⟨y3, y4⟩ : Sm 480 (miN a1 a2 b1 b2) ∧ Sm 480 (miD a1 a2 b1 b2) := sm_lw (by omega) (w2.mul y1) (w1.mul y2) 480
  have SQ : R_square [.d (q2 b1 b2), .d (.int u)] st (.d (q2 (sqN b1 b2 u) (sqD b1 b2 u))) st := .mk kb s3.mono s4.mono su
  have SR : R_square [.d (q2 c1 c2), .d (.int v)] st (.d (q2 (sqN c1 c2 v) (sqD c1 c2 v))) st := .mk kc s5.mono s6.mono sv
  have ST : R_sgn [.d (lw (psN a1 a2 b1 b2 u * sqD c1 c2 v - sqN c1 c2 v * psD a1 a2 b1 b2 u) (psD a1 a2 b1 b2 u * sqD c1 c2 v)), .d (lw (2 * lwN (a1 * b1) (a2 * b2)) (1 * lwD (a1 * b1) (a2 * b2))), .d (.int u)] st
      (.d (.int (sg2 (alN a1 a2 b1 b2 u c1 c2 v * miD a1 a2 b1 b2) (miN a1 a2 b1 b2 * alD a1 a2 b1 b2 u c1 c2 v) u))) st := .mk (alD_pos pa pb pc) (miD_pos pa pb) x9 xA y3 y4 su
  have e2 := lw_one (u := (2 : Int))
  have cm := sg_cm (y := sg2 (alN a1 a2 b1 b2 u c1 c2 v * miD a1 a2 b1 b2) (miN a1 a2 b1 b2 * alD a1 a2 b1 b2 u c1 c2 v) u) (sg2_r (a1 * b2) (b1 * a2) u)
  have k1 : lwD (a1 * a1) (a2 * a2) ≠ 0 := by omega
  have k2 : sqD b1 b2 u ≠ 0 := by omega
  have k3 : psD a1 a2 b1 b2 u ≠ 0 := by omega
  have k4 : sqD c1 c2 v ≠ 0 := by omega
  have k5 : lwD (a1 * b1) (a2 * b2) ≠ 0 := by omega
  have g1 : Sm 1000 (lwN (a1 * a1) (a2 * a2)) := x1.mono
  have g2 : Sm 1000 (lwD (a1 * a1) (a2 * a2)) := x2.mono
  have g3 : Sm 1000 (sqN b1 b2 u) := x3.mono
  have g4 : Sm 1000 (sqD b1 b2 u) := x4.mono
  have g5 : Sm 1000 (sqN c1 c2 v) := x5.mono
  have g6 : Sm 1000 (sqD c1 c2 v) := x6.mono
  have g7 : Sm 1000 (psN a1 a2 b1 b2 u) := x7.mono
  have g8 : Sm 1000 (psD a1 a2 b1 b2 u) := x8.mono
  have g9 : Sm 1000 (lwN (a1 * b1) (a2 * b2)) := y1.mono
  have gA : Sm 1000 (lwD (a1 * b1) (a2 * b2)) := y2.mono
  have f1 : Sm 1000 (2 : Int) := w2.mono
  have f2 : Sm 1000 (1 : Int) := w1.mono
  have k6 : (1 : Int) ≠ 0 := by decide
  have F2 : R_frac [.d (.int 2), .d (.int 1)] st (.d (q2 2 1)) st := by
    have := fr_mk (s := st) w2 w1 k6
    rw [show lw (2 : Int) 1 = q2 2 1 by show PyData.tuple [.int (lwN 2 1), .int (lwD 2 1)] = _; rw [e2.1, e2.2]] at this
    exact this
  walk_at "w"
  with_reducible apply w_asg
  · with_reducible apply ev_call
    · walk_at "ea"
    · exact SA
  walk_at "w"
  with_reducible apply w_asg
  · with_reducible apply ev_call
    · walk_at "ea"
    · exact SB
  iterate 2 (walk_at "w")
  · intro c
    rw [eqv_ii] at c
    rw [if_pos (of_decide_eq_true c)] at q'
    walk_at "w"
    exact q'
  · intro c
    rw [eqv_ii] at c
    rw [if_neg (of_decide_eq_false c)] at q'
    iterate 3 (walk_at "w")
    · intro c2
      rw [eqv_ii, eqv_ii] at c2
      rw [if_pos (by simpa using c2)] at q'
      walk_at "w"
      exact q'
    · intro c2
      rw [eqv_ii, eqv_ii] at c2
      rw [if_neg (by simpa using c2)] at q'
      iterate 5 (walk_at "w")
      rw [e2.1, e2.2]
      walk_at "w"
      exact q'
theorem ok_rsign (c__sign : Cb P w K mg base "_sign" 4 [] (spF K R_sgn)) (G : Fun K "root_sign" "root_sign" s_root_sign f fd) : FnOk P w K mg base CX0 5 f fd ["root"] (spF K R_rsign) := by
  refine G.ok sc_root_sign (spF_len fun xs s x s' h => by cases h; rfl) (fun cdv A outer s H vs Q E hr ⟨M, xs, st, x, st', h, So, rx, q⟩ => ?_)
  cases h with
  | @mk a1 a2 b1 b2 u _ pa pb s1 s2 s3 s4 su =>
  refine ⟨_, (pss_cons (ps_asg (pv 0) (pgk_tup (K := K) 3 (by rfl) (pgs_cons (pg_name (i := 1) sc_root_sign.nd rfl (Or.inl rfl)) (pgs_cons (pg_name (i := 2) sc_root_sign.nd rfl (Or.inl rfl)) (pgs_cons (pg_name (i := 3) sc_root_sign.nd rfl (Or.inl rfl)) pgs_nil)))))
      (pss_one (ps_ret (pe_cb c__sign (hr.mono (by decide)) (by rfl) (pa_cons (pv 1) (pa_cons (pv 2) (pa_cons (pv 3) pa_nil))))))), ?_⟩
  refine w_run So rx ?_
  try simp only [nox_K, cx_K, List.map_cons, List.map_nil]
  have q' := okr_0 q So.len
  have SA : R_sgn [.d (q2 a1 a2), .d (q2 b1 b2), .d (.int u)] st (.d (.int (sg2 (a1 * b2) (b1 * a2) u))) st := .mk pa pb s1 s2 s3 s4 su
  iterate 3 (walk_at "w")
  exact q'
theorem sm_of {n m : Nat} {i : Int} (h : Sm n i) (e : n ≤ m) : Sm m i := h.mono e
theorem ok_less (Z : Zx K mg ζ) (c_minus : Cb P w K mg base "minus" 2 [] (spF K R_minus)) (c__sign_of_three : Cb P w K mg base "_sign_of_three" 5 [] (spF K R_three)) (G : Fun K "is_less" "is_less" s_is_less f fd) : FnOk P w K mg base CX0 6 f fd ["one", "other"] (spF K R_less) := by
  refine G.ok sc_is_less (spF_len fun xs s x s' h => by cases h; rfl) (fun cdv A outer s H vs Q E hr ⟨M, xs, st, x, st', h, So, rx, q⟩ => ?_)
  cases h with
  | @mk a1 a2 b1 b2 u c1 c2 d1 d2 v _ n m hnm pa pb pc pd s1 s2 s3 s4 su s5 s6 s7 s8 sv =>
  refine ⟨_, (pss_cons (ps_set (i := 2) sc_is_less.nd rfl (.inl rfl) (pe_cb c_minus (hr.mono (by decide)) (by rfl) (pa_cons (pe_ix (ixk (K := K)) (pv 0) (pe_int) (fun _ _ => rfl)) (pa_cons (pe_ix (ixk (K := K)) (pv 1) (pe_int) (fun _ _ => rfl)) pa_nil))))
      (pss_cons (ps_set (i := 3) sc_is_less.nd rfl (.inl rfl) (pe_cb c_minus (hr.mono (by decide)) (by rfl) (pa_cons (pe_glob (v := .ref ζ.TN) (by rfl) Z.g_NOUGHT rfl) (pa_cons (pe_ix (ixk (K := K)) (pv 1) (pe_int) (fun _ _ => rfl)) pa_nil))))
      (pss_one (ps_ret (pe_cmpR op_ltA (pe_cb c__sign_of_three (hr.mono (by decide)) (by rfl) (pa_cons (pv 2) (pa_cons (pe_ix (ixk (K := K)) (pv 0) (pe_int) (fun _ _ => rfl)) (pa_cons (pe_ix (ixk (K := K)) (pv 0) (pe_int) (fun _ _ => rfl)) (pa_cons (pv 3) (pa_cons (pe_ix (ixk (K := K)) (pv 1) (pe_int) (fun _ _ => rfl)) pa_nil)))))) (pe_int) (nomark _)))))), ?_⟩
  refine w_run So rx ?_
  try simp only [nox_K, cx_K, List.map_cons, List.map_nil]
  have q' := okr_0 q So.len
  have ac := Int.mul_pos pa pc
  have z1 : Sm 1000 a1 := sm_of s1 (by omega)
  have z2 : Sm 1000 a2 := sm_of s2 (by omega)
  have z3 : Sm 1000 c1 := sm_of s5 (by omega)
  have z4 : Sm 1000 c2 := sm_of s6 (by omega)
  have z5 : Sm 1000 d1 := s7.mono
  have z6 : Sm 1000 d2 := s8.mono
  have z7 : Sm 1000 (0 : Int) := Sm.mono (n := 1) (.of 0 (by decide))
  have z8 : Sm 1000 (1 : Int) := Sm.mono (n := 1) (.of 1 (by decide))
  have k1 : a2 ≠ 0 := by omega
  have k2 : c2 ≠ 0 := by omega
  have k3 : d2 ≠ 0 := by omega
  have k4 : (1 : Int) ≠ 0 := by decide
  have d0 : 0 < 1 * d2 := by omega
  obtain ⟨x1, x2⟩ := sm_lw2 (u := a1 * c2 - c1 * a2) (v := a2 * c2) (n := 130) (m := 130) (by omega) (sm_of ((s1.mul s6).sub (sm_of (s5.mul s2) (show m + n ≤ n + m by omega))) (by omega)) (sm_of (s2.mul s6) (by omega))
  obtain ⟨x3, x4⟩ := sm_lw2 (u := 0 * d2 - d1 * 1) (v := 1 * d2) (n := 10) (m := 10) (by omega) (by
    rw [show 0 * d2 - d1 * 1 = -d1 by omega]
    exact s7.neg.mono) (by
    rw [Int.one_mul]
    exact s8.mono)
  have p1 : 0 < lwD (a1 * c2 - c1 * a2) (a2 * c2) := lwD_pos (by omega)
  have p2 : 0 < lwD (0 * d2 - d1 * 1) (1 * d2) := lwD_pos (by omega)
  have T : R_three [.d (lw (a1 * c2 - c1 * a2) (a2 * c2)), .d (q2 b1 b2), .d (.int u), .d (lw (0 * d2 - d1 * 1) (1 * d2)), .d (.int v)] st _ st := .mk p1 pb p2 x1 x2 s3.mono s4.mono su x3 x4 sv
  have E0 := sg3_req (y1 := b1) (y2 := b2) (u := u) (v := v) p1 p2 ac d0 (req_lw (u := a1 * c2 - c1 * a2) ac) (req_lw (u := 0 * d2 - d1 * 1) d0)
  rw [E0, show 0 * d2 - d1 * 1 = -d1 by omega, Int.one_mul] at T
  have T2 : R_three [.d (lw (a1 * c2 - c1 * a2) (a2 * c2)), .d (q2 b1 b2), .d (.int u), .d (lw (0 * d2 - d1 * 1) (1 * d2)), .d (.int v)] st (.d (.int (sg3 ((a1 * c2 - c1 * a2) * (b2 * d2)) (b1 * (a2 * c2 * d2)) u (-d1 * (a2 * c2 * b2)) v))) st := by
    rw [show 0 * d2 - d1 * 1 = -d1 by omega, Int.one_mul]
    exact T
  iterate 5 (walk_at "w")
  exact q'
end
end
end K04
namespace K04
open PySem L2 Pw
section
open Km
inductive R_side : Gr
  | mk {n p : Nat} {s} (h : Sq (n : Int) (p : Int)) (hn : Sm 1000 (n : Int)) : R_side [.d (.int (n : Int))] s (.d (.int (p : Int))) s
theorem newton {n p f : Nat} (h : Sq (n : Int) (p : Int)) (hf : p ≤ f) (c : n < f * f) : p ≤ (f + n / f) / 2 ∧ (f + n / f) / 2 < f := by
  have f0 : 0 < f := by
    rcases Nat.eq_zero_or_pos f with z | z
    · subst z; omega
    · exact z
  have lo : p * p ≤ n := by have := h.lo; omega
  have a : 2 * p - f ≤ n / f := by
    rw [Nat.le_div_iff_mul_le f0]
    rcases Nat.lt_or_ge (2 * p) f with q | q
    · rw [show 2 * p - f = 0 by omega, Nat.zero_mul]
      exact Nat.zero_le _
    · obtain ⟨d, rfl⟩ : ∃ d, f = p + d := ⟨f - p, by omega⟩
      obtain ⟨e, rfl⟩ : ∃ e, p = d + e := ⟨p - d, by omega⟩
      rw [show 2 * (d + e) - (d + e + d) = e by omega]
      grind
  have b : n / f < f := (Nat.div_lt_iff_lt_mul f0).mpr c
  omega
theorem start_le {n p t : Nat} (h : Sq (n : Int) (p : Int)) (big : n < t * t) : p ≤ t := by
  have := h.lo
  have e : ((t * t : Nat) : Int) = (t : Int) * t := Int.natCast_mul t t
  have := lt_sq (a := (p : Int)) (b := (t : Int)) (by omega) (by omega)
  omega
theorem pow_1000 {n : Nat} (h : n < 2 ^ 1000) : n < 10 ^ 1000 := Nat.lt_of_lt_of_le h (Nat.pow_le_pow_left (by decide) 1000)
theorem newton_end {n p f : Nat} (h : Sq (n : Int) (p : Int)) (hf : p ≤ f) (c : f * f ≤ n) : f = p := by
  have := lt_sq (a := (f : Int)) (b := (p : Int) + 1) (by omega) (by have := h.hi; omega)
  omega
end
section
local macro_rules | `(tactic| walk_at "sd") => `(tactic| first | rfl | assumption | exact Nat.le_of_ble_eq_true rfl | decide | omega | (walk_at "sd2"))
local macro_rules | `(tactic| walk_at "sd2") => `(tactic| first | exact cm_sm (by assumption) (by assumption) | exact cf_sm (by assumption) (by assumption) | ((with_reducible apply gs); (walk_at "sd")) | exact cm_fm7 | exact cm_if | exact cm_l (by omega) (by omega) | exact cm_r (by omega) (by omega) | exact cf_c (by omega) (by omega))
local macro_rules | `(tactic| walk_at "isi") => `(tactic| with_reducible first | exact kit_int | exact kit_bool | exact kit_tuple | exact kit_list | exact kit_str)
local macro_rules | `(tactic| walk_at "und") => `(tactic| with_reducible repeat (first | exact Und.nil | apply Und.cons))
local macro_rules | `(tactic| walk_at "op") => `(tactic| (first
  | with_reducible exact o_add | with_reducible exact o_minus | with_reducible exact o_lt | with_reducible exact o_gt | with_reducible exact o_le | with_reducible exact o_ge | with_reducible exact o_neg
  | with_reducible exact o_isN | with_reducible exact o_isntN | with_reducible exact o_isB | with_reducible exact o_isntB | with_reducible exact o_neS | with_reducible exact o_eqS
  | with_reducible exact o_abs | with_reducible exact o_intB | with_reducible exact o_min2 | with_reducible exact o_max2 | with_reducible exact o_lenL | with_reducible exact o_lenT | with_reducible exact o_lenC | with_reducible exact o_gcd
  | with_reducible apply o_ixT | with_reducible apply o_ixL | with_reducible apply o_ixM | with_reducible apply o_ixS | with_reducible apply o_lenM
  | with_reducible apply o_mul | with_reducible apply o_fdiv | with_reducible apply o_mod | with_reducible apply o_pow | with_reducible apply o_eq | with_reducible apply o_ne | with_reducible apply o_catT | with_reducible apply o_repr | with_reducible apply o_all) <;> walk_at "sd")
local macro_rules | `(tactic| walk_at "opn") => `(tactic| (first
  | with_reducible apply o_cat | with_reducible apply o_repI | with_reducible exact o_listT | with_reducible exact o_listL) <;> walk_at "sd")
local macro_rules | `(tactic| walk_at "ea") => `(tactic| first
  | with_reducible exact eva_nil
  | ((with_reducible apply eva_cons); (walk_at "ev"); (walk_at "ea")))
local macro_rules | `(tactic| walk_at "call") => `(tactic| fail)
local macro_rules | `(tactic| walk_at "evn") => `(tactic| first
  | ((with_reducible apply evn_lstU); (walk_at "ea"); (walk_at "und"); (walk_at "sd"))
  | ((with_reducible apply evn_op); (walk_at "ev"); (walk_at "ev"); (walk_at "opn"))
  | ((with_reducible apply evn_cb); (walk_at "ea"); (walk_at "opn"))
  | ((with_reducible apply evn_call); (walk_at "ea"); (walk_at "call")))
local macro_rules | `(tactic| walk_at "ev") => `(tactic| first
  | with_reducible exact ev_int | with_reducible exact ev_bl | with_reducible exact ev_non | with_reducible exact ev_str
  | ((with_reducible apply ev_var); rfl)
  | ((with_reducible apply ev_op); (walk_at "ev"); (walk_at "ev"); (walk_at "op"))
  | ((with_reducible apply ev_un); (walk_at "ev"); (walk_at "op"))
  | ((with_reducible apply ev_call); (walk_at "ea"); (walk_at "call"))
  | ((with_reducible apply ev_callD); (walk_at "ea"); (intro _ _; exact rxs_1); (walk_at "call"))
  | ((with_reducible apply ev_callK); (walk_at "ea"); rfl; (intro _ _ _ hh; first | exact rxs_swap2 hh | exact rxs_same1 hh); (walk_at "call"))
  | ((with_reducible apply ev_isi); (walk_at "ev"); (walk_at "isi"))
  | ((with_reducible apply ev_isi2); (walk_at "ev"); (walk_at "isi"); (walk_at "isi"))
  | ((with_reducible apply ev_cb); (walk_at "ea"); (walk_at "op"))
  | ((with_reducible apply ev_tupU); (walk_at "ea"); (walk_at "und"); (walk_at "sd"))
  | ((with_reducible apply ev_new); (walk_at "evn"))
  | ((with_reducible apply ev_slT); (walk_at "ev"); (walk_at "eo"); (walk_at "eo"))
  | ((with_reducible apply ev_andV); (walk_at "ev"); (intro _; walk_at "ev"); (intro _; rfl))
  | ((with_reducible apply ev_orV); (walk_at "ev"); (intro _; walk_at "ev"); (intro _; rfl))
  | ((with_reducible apply ev_notV); (walk_at "ev")))
local macro_rules | `(tactic| walk_at "eo") => `(tactic| first
  | with_reducible exact eo_none
  | ((with_reducible apply eo_some); (walk_at "ev")))
local macro_rules | `(tactic| walk_at "et") => `(tactic| first
  | ((with_reducible apply et_test); (walk_at "ev"))
  | ((with_reducible apply et_B); (walk_at "ev"))
  | ((with_reducible apply et_not); (walk_at "et"))
  | ((with_reducible apply et_and); (walk_at "et"); (intro _; walk_at "et"); (intro _; rfl))
  | ((with_reducible apply et_or); (walk_at "et"); (intro _; walk_at "et"); (intro _; rfl)))
local macro_rules | `(tactic| walk_at "w") => `(tactic| first
  | (with_reducible apply w_seq)
  | (with_reducible apply w_next)
  | ((with_reducible apply w_asg); (walk_at "ev"))
  | ((with_reducible apply w_ret); (walk_at "ev"))
  | ((with_reducible apply w_drop); (walk_at "ev"))
  | ((with_reducible apply w_par); (walk_at "ea"))
  | ((with_reducible apply w_tup2); (walk_at "ev"))
  | ((with_reducible apply w_tup3); (walk_at "ev"))
  | ((with_reducible apply w_setI); (walk_at "ev"); (walk_at "ev"); (walk_at "ev"); (walk_at "sd"); (walk_at "sd"))
  | ((with_reducible apply w_if); (walk_at "et")))

variable {P : Program} {w : World} {K : Pw.Fg} {mg : Str → Option Value} {base : Heap} {f : Addr} {fd : FuncData} {ζ : ZA}
open Km in
theorem ok_side (Z : Zx K mg ζ) (G : Fun K "_law_side" "_law_side" s__law_side f fd) : FnOk P w K mg base CX0 1 f fd ["_law_many"] (spF K R_side) := by
  refine G.ok sc__law_side (spF_len fun xs s x s' h => by cases h; rfl) (fun cdv A outer s H vs Q E hr ⟨M, xs, st, x, st', h, So, rx, q⟩ => ?_)
  cases h with
  | @mk n p _ h hn =>
  refine ⟨_, (pss_cons (ps_set (i := 1) sc__law_side.nd rfl (.inl rfl) (pe_callTy cb_intS (by rfl) Z.z_int bt_int (pa_cons (pe_op (opk_plus (K := K)) (pe_str) (pe_op op_mulS (pe_str) (pe_op op_fdivA (pe_op (opk_plus (K := K)) (pe_callB (cbk_len (K := K)) (by rfl) Z.z_len bt_len (pa_cons (pe_callTy cb_strI (by rfl) Z.z_str bt_str (pa_cons (pv 0) pa_nil)) pa_nil)) (pe_int)) (pe_int)))) pa_nil)))
      (pss_cons (ps_while PassesOwn.never (pt_cmpR op_gtA (pe_op op_times (pv 1) (pv 1)) (pv 0) (nomark _)) (pss_one (ps_set (i := 1) sc__law_side.nd rfl (.inl rfl) (pe_op op_fdivA (pe_op (opk_plus (K := K)) (pv 1) (pe_op op_fdivA (pv 0) (pv 1))) (pe_int)))))
      (pss_one (ps_ret (pv 1))))), ?_⟩
  refine w_run So rx ?_
  try simp only [nox_K, cx_K, List.map_cons, List.map_nil]
  have q' := okr_0 q So.len
  obtain ⟨l1, l2, l3⟩ := num_len n
  have lm : (Str.ofString (toString ((n : Nat) : Int))).length ≤ 1000 := by
    exact l3 1000 (by decide) (pow_1000 (by have := hn.lt; rw [Int.natAbs_natCast] at this; exact this))
  obtain ⟨hh, eh⟩ : ∃ hh : Nat, hh = ((Str.ofString (toString ((n : Nat) : Int))).length + 1) / 2 := ⟨_, rfl⟩
  have h1 : 1 ≤ hh := by omega
  have h6 : hh ≤ 600 := by omega
  have ei : ((((Str.ofString (toString ((n : Nat) : Int))).length : Nat) : Int) + 1).fdiv 2 = (hh : Int) := by
    rw [Int.fdiv_eq_ediv_of_nonneg _ (by decide)]
    omega
  obtain ⟨z1, z2⟩ := one_zeros h1 h6
  have big : n < 10 ^ hh * 10 ^ hh := by
    rw [← Nat.pow_add]
    exact Nat.lt_of_lt_of_le l2 (Nat.pow_le_pow_right (by decide) (by omega))
  have start : p ≤ 10 ^ hh := start_le h big
  have ts : Sm 2000 ((10 ^ hh : Nat) : Int) := ⟨by
    rw [Int.natAbs_natCast]
    exact Nat.lt_of_le_of_lt (Nat.pow_le_pow_right (by decide) h6) (by decide)⟩
  walk_at "w"
  with_reducible apply w_asg (x := .d (.int ((10 ^ hh : Nat) : Int)))
  · with_reducible apply ev_cb
    · with_reducible apply eva_cons
      · with_reducible apply ev_op
        · exact ev_str
        · apply Ev.is
          · with_reducible apply ev_op
            · exact ev_str
            · with_reducible apply ev_op
              · with_reducible apply ev_op
                · with_reducible apply ev_cb
                  · with_reducible apply eva_cons
                    · with_reducible apply ev_cb
                      · walk_at "ea"
                      · exact o_strI (Nat.lt_of_lt_of_le (log_sm hn (by decide)) (by decide))
                    · exact eva_nil
                  · exact o_lenS (Nat.le_trans lm (by decide))
                · exact ev_int
                · exact o_add
              · exact ev_int
              · exact o_fdiv ⟨by decide, by decide⟩
            · rw [ei]
              exact o_mulS (PyProof.Rows.mulOk_of 16 1048576 (by decide) (by omega) (by omega) (by decide) (by decide))
          · rw [mul_zeros h1]
        · exact o_addS (by
            have := z2
            rw [PySem.Str.length_append] at this
            omega)
      · exact eva_nil
    · exact o_intS z1 z2
  walk_at "w"
  dsimp only
  refine w_while (fun k ρ s => s = st ∧ ρ = [some (.d (.int (n : Int))), some (.d (.int (k : Int)))] ∧ p ≤ k ∧ k ≤ 10 ^ hh) ⟨10 ^ hh, rfl, rfl, start, Nat.le_refl _⟩ ?_
  rintro k ρ s2 ⟨rfl, rfl, hp, hk⟩
  have ks : Sm 2000 (k : Int) := ts.le (by omega)
  have ck : CM (k : Int) (k : Int) := cm_sm ks ks
  refine ⟨decide ((n : Int) < (k : Int) * k), s2, ?_, ?_, ?_⟩
  · walk_at "et"
  · intro c N hN
    have c' : n < k * k := by
      have := of_decide_eq_true c
      omega
    have k0 : (k : Int) ≠ 0 := fun z => by
      have : k = 0 := by omega
      subst this
      omega
    obtain ⟨a1, a2⟩ := newton h hp c'
    have cf : CF (n : Int) (k : Int) := cf_sm k0 ks
    have cf2 : CF ((k : Int) + (n : Int).fdiv (k : Int)) 2 := ⟨by decide, by decide⟩
    walk_at "w"
    refine hN _ _ _ a2 ⟨rfl, ?_, a1, by omega⟩
    rw [fd_nat, ← Int.natCast_add, show (2 : Int) = ((2 : Nat) : Int) from rfl, fd_nat]
    rfl
  · intro c
    have c' : k * k ≤ n := by
      have := of_decide_eq_false c
      omega
    have := newton_end h hp c'
    subst this
    walk_at "w"
    exact q'
end
end K04
namespace K04
open PySem L2 Pw
open Km (Sm Sq wx wd Rt less_iff sg3 cm_sm cf_sm abs_sq sq_exI fdiv_b)
inductive R_wide : Gr
  | mk {a1 a2 b1 b2 N k : Int} {u : Nat} {s} (pa : 0 < a2) (pb : 0 < b2) (hN : 0 ≤ N) (s1 : Sm 20 a1) (s2 : Sm 20 a2) (s3 : Sm 20 b1) (s4 : Sm 20 b2) (su : u ≤ 1000000) (sN : Sm 140 N) (hk : Sq (wx b1 b2 u N) k) : R_wide [.d (t3 (q2 a1 a2) (q2 b1 b2) (.int (u : Int))), .d (.int N)] s (.d (.int (wd a1 a2 b1 N k))) s
inductive R_below : Gr
  | mk {a1 a2 b1 b2 c1 c2 d1 d2 : Int} {u v : Nat} {s} (h : Rt a1 a2 b1 b2 u) (h' : Rt c1 c2 d1 d2 v) : R_below [.d (t3 (q2 a1 a2) (q2 b1 b2) (.int (u : Int))), .d (t3 (q2 c1 c2) (q2 d1 d2) (.int (v : Int)))] s
      (.d (.bool (decide (sg3 ((a1 * c2 - c1 * a2) * (b2 * d2)) (b1 * (a2 * c2 * d2)) u (-d1 * (a2 * c2 * b2)) v < 0)))) s
theorem wx_nn {b1 b2 N : Int} {u : Nat} (pb : 0 < b2) (hN : 0 ≤ N) : 0 ≤ wx b1 b2 u N := by
  have h1 : 0 ≤ b1 * b1 * (u : Int) * N * N := Int.mul_nonneg (Int.mul_nonneg (Int.mul_nonneg (by rw [← abs_sq]; omega) (by omega)) hN) hN
  have b0 := Int.mul_pos pb pb
  unfold wx
  rw [Int.fdiv_eq_ediv_of_nonneg _ (by omega)]
  exact Int.ediv_nonneg h1 (by omega)
theorem wx_ex {b1 b2 N : Int} {u : Nat} (pb : 0 < b2) (hN : 0 ≤ N) : ∃ k, Sq (wx b1 b2 u N) k := sq_exI (wx_nn pb hN)
theorem eqv_t3 {a1 a2 b1 b2 c1 c2 d1 d2 u v : Int} : PyData.eqv (t3 (q2 a1 a2) (q2 b1 b2) (.int u)) (t3 (q2 c1 c2) (q2 d1 d2) (.int v)) = decide (a1 = c1 ∧ a2 = c2 ∧ b1 = d1 ∧ b2 = d2 ∧ u = v) := by
  rw [Bool.eq_iff_iff]
  simp [PyData.eqv, PyData.eqvAll, and_assoc]
section
local macro_rules | `(tactic| walk_at "sd") => `(tactic| first | rfl | assumption | exact Nat.le_of_ble_eq_true rfl | decide | omega | (walk_at "sd2"))
local macro_rules | `(tactic| walk_at "sd2") => `(tactic| first | exact cm_sm (by assumption) (by assumption) | exact cf_sm (by assumption) (by assumption) | ((with_reducible apply gs); (walk_at "sd")) | exact cm_fm7 | exact cm_if | exact cm_l (by omega) (by omega) | exact cm_r (by omega) (by omega) | exact cf_c (by omega) (by omega))
local macro_rules | `(tactic| walk_at "isi") => `(tactic| with_reducible first | exact kit_int | exact kit_bool | exact kit_tuple | exact kit_list | exact kit_str)
local macro_rules | `(tactic| walk_at "und") => `(tactic| with_reducible repeat (first | exact Und.nil | apply Und.cons))
local macro_rules | `(tactic| walk_at "op") => `(tactic| (first
  | with_reducible exact o_add | with_reducible exact o_minus | with_reducible exact o_lt | with_reducible exact o_gt | with_reducible exact o_le | with_reducible exact o_ge | with_reducible exact o_neg
  | with_reducible exact o_isN | with_reducible exact o_isntN | with_reducible exact o_isB | with_reducible exact o_isntB | with_reducible exact o_neS | with_reducible exact o_eqS
  | with_reducible exact o_abs | with_reducible exact o_intB | with_reducible exact o_min2 | with_reducible exact o_max2 | with_reducible exact o_lenL | with_reducible exact o_lenT | with_reducible exact o_lenC | with_reducible exact o_gcd
  | with_reducible apply o_ixT | with_reducible apply o_ixL | with_reducible apply o_ixM | with_reducible apply o_ixS | with_reducible apply o_lenM
  | with_reducible apply o_mul | with_reducible apply o_fdiv | with_reducible apply o_mod | with_reducible apply o_pow | with_reducible apply o_eq | with_reducible apply o_ne | with_reducible apply o_catT | with_reducible apply o_repr | with_reducible apply o_all) <;> walk_at "sd")
local macro_rules | `(tactic| walk_at "opn") => `(tactic| (first
  | with_reducible apply o_cat | with_reducible apply o_repI | with_reducible exact o_listT | with_reducible exact o_listL) <;> walk_at "sd")
local macro_rules | `(tactic| walk_at "ea") => `(tactic| first
  | with_reducible exact eva_nil
  | ((with_reducible apply eva_cons); (walk_at "ev"); (walk_at "ea")))
local macro_rules | `(tactic| walk_at "call") => `(tactic| fail)
local macro_rules | `(tactic| walk_at "evn") => `(tactic| first
  | ((with_reducible apply evn_lstU); (walk_at "ea"); (walk_at "und"); (walk_at "sd"))
  | ((with_reducible apply evn_op); (walk_at "ev"); (walk_at "ev"); (walk_at "opn"))
  | ((with_reducible apply evn_cb); (walk_at "ea"); (walk_at "opn"))
  | ((with_reducible apply evn_call); (walk_at "ea"); (walk_at "call")))
local macro_rules | `(tactic| walk_at "ev") => `(tactic| first
  | with_reducible exact ev_int | with_reducible exact ev_bl | with_reducible exact ev_non | with_reducible exact ev_str
  | ((with_reducible apply ev_var); rfl)
  | ((with_reducible apply ev_op); (walk_at "ev"); (walk_at "ev"); (walk_at "op"))
  | ((with_reducible apply ev_un); (walk_at "ev"); (walk_at "op"))
  | ((with_reducible apply ev_call); (walk_at "ea"); (walk_at "call"))
  | ((with_reducible apply ev_callD); (walk_at "ea"); (intro _ _; exact rxs_1); (walk_at "call"))
  | ((with_reducible apply ev_callK); (walk_at "ea"); rfl; (intro _ _ _ hh; first | exact rxs_swap2 hh | exact rxs_same1 hh); (walk_at "call"))
  | ((with_reducible apply ev_isi); (walk_at "ev"); (walk_at "isi"))
  | ((with_reducible apply ev_isi2); (walk_at "ev"); (walk_at "isi"); (walk_at "isi"))
  | ((with_reducible apply ev_cb); (walk_at "ea"); (walk_at "op"))
  | ((with_reducible apply ev_tupU); (walk_at "ea"); (walk_at "und"); (walk_at "sd"))
  | ((with_reducible apply ev_new); (walk_at "evn"))
  | ((with_reducible apply ev_slT); (walk_at "ev"); (walk_at "eo"); (walk_at "eo"))
  | ((with_reducible apply ev_andV); (walk_at "ev"); (intro _; walk_at "ev"); (intro _; rfl))
  | ((with_reducible apply ev_orV); (walk_at "ev"); (intro _; walk_at "ev"); (intro _; rfl))
  | ((with_reducible apply ev_notV); (walk_at "ev")))
local macro_rules | `(tactic| walk_at "eo") => `(tactic| first
  | with_reducible exact eo_none
  | ((with_reducible apply eo_some); (walk_at "ev")))
local macro_rules | `(tactic| walk_at "et") => `(tactic| first
  | ((with_reducible apply et_test); (walk_at "ev"))
  | ((with_reducible apply et_B); (walk_at "ev"))
  | ((with_reducible apply et_not); (walk_at "et"))
  | ((with_reducible apply et_and); (walk_at "et"); (intro _; walk_at "et"); (intro _; rfl))
  | ((with_reducible apply et_or); (walk_at "et"); (intro _; walk_at "et"); (intro _; rfl)))
local macro_rules | `(tactic| walk_at "w") => `(tactic| first
  | (with_reducible apply w_seq)
  | (with_reducible apply w_next)
  | ((with_reducible apply w_asg); (walk_at "ev"))
  | ((with_reducible apply w_ret); (walk_at "ev"))
  | ((with_reducible apply w_drop); (walk_at "ev"))
  | ((with_reducible apply w_par); (walk_at "ea"))
  | ((with_reducible apply w_tup2); (walk_at "ev"))
  | ((with_reducible apply w_tup3); (walk_at "ev"))
  | ((with_reducible apply w_setI); (walk_at "ev"); (walk_at "ev"); (walk_at "ev"); (walk_at "sd"); (walk_at "sd"))
  | ((with_reducible apply w_if); (walk_at "et")))

variable {P : Program} {w : World} {K : Pw.Fg} {mg : Str → Option Value} {base : Heap} {f : Addr} {fd : FuncData} {ζ : ZA}
theorem ok_wide (c__law_side : Cb P w K mg base "_law_side" 1 [] (spF K R_side)) (G : Fun K "_law_wide" "_law_wide" s__law_wide f fd) : FnOk P w K mg base CX0 2 f fd ["_law_main", "_law_many"] (spF K R_wide) := by
  refine G.ok sc__law_wide (spF_len fun xs s x s' h => by cases h; rfl) (fun cdv A outer s H vs Q E hr ⟨M, xs, st, x, st', h, So, rx, q⟩ => ?_)
  cases h with
  | @mk a1 a2 b1 b2 N k u _ pa pb hN s1 s2 s3 s4 su sN hk =>
  refine ⟨_, (pss_cons (ps_asg (pv 0) (pgk_tup (K := K) 3 (by rfl) (pgs_cons (pg_name (i := 2) sc__law_wide.nd rfl (Or.inl rfl)) (pgs_cons (pg_name (i := 3) sc__law_wide.nd rfl (Or.inl rfl)) (pgs_cons (pg_name (i := 4) sc__law_wide.nd rfl (Or.inl rfl)) pgs_nil)))))
      (pss_cons (ps_set (i := 5) sc__law_wide.nd rfl (.inl rfl) (pe_op op_fdivA (pe_op op_times (pe_ix (ixk (K := K)) (pv 2) (pe_int) (fun _ _ => rfl)) (pv 1)) (pe_ix (ixk (K := K)) (pv 2) (pe_int) (fun _ _ => rfl))))
      (pss_cons (ps_set (i := 6) sc__law_wide.nd rfl (.inl rfl) (pe_cb c__law_side (hr.mono (by decide)) (by rfl) (pa_cons (pe_op op_fdivA (pe_op op_times (pe_op op_times (pe_op op_times (pe_op op_times (pe_ix (ixk (K := K)) (pv 3) (pe_int) (fun _ _ => rfl)) (pe_ix (ixk (K := K)) (pv 3) (pe_int) (fun _ _ => rfl))) (pv 4)) (pv 1)) (pv 1)) (pe_op op_times (pe_ix (ixk (K := K)) (pv 3) (pe_int) (fun _ _ => rfl)) (pe_ix (ixk (K := K)) (pv 3) (pe_int) (fun _ _ => rfl)))) pa_nil)))
      (pss_one (ps_ret (pe_ifExp (pt_cmpR op_geA (pe_ix (ixk (K := K)) (pv 3) (pe_int) (fun _ _ => rfl)) (pe_int) (nomark _)) (pe_op (opk_plus (K := K)) (pv 5) (pv 6)) (pe_op op_minus (pv 5) (pv 6)))))))), ?_⟩
  refine w_run So rx ?_
  try simp only [nox_K, cx_K, List.map_cons, List.map_nil]
  have q' := okr_0 q So.len
  have ka : a2 ≠ 0 := by omega
  have b0 := Int.mul_pos pb pb
  have kb : b2 * b2 ≠ 0 := by omega
  have zu : Sm 20 (u : Int) := smn 1000000 su
  have z1 : Sm 140 (b1 * b1 * (u : Int)) := Sm.mono ((s3.mul s3).mul zu)
  have z2 : Sm 280 (b1 * b1 * (u : Int) * N) := z1.mul sN
  have z3 : Sm 420 (b1 * b1 * (u : Int) * N * N) := z2.mul sN
  have c1 : CF (a1 * N) a2 := cf_sm ka s2
  have c2 : CF (b1 * b1 * (u : Int) * N * N) (b2 * b2) := cf_sm kb (s4.mul s4)
  have m1 : CM a1 N := cm_sm s1 sN
  have m2 : CM b1 b1 := cm_sm s3 s3
  have m3 : CM (b1 * b1) (u : Int) := cm_sm (s3.mul s3) zu
  have m4 : CM (b1 * b1 * (u : Int)) N := cm_sm z1 sN
  have m5 : CM (b1 * b1 * (u : Int) * N) N := cm_sm z2 sN
  have m6 : CM b2 b2 := cm_sm s4 s4
  obtain ⟨n, en⟩ : ∃ n : Nat, wx b1 b2 u N = (n : Int) := ⟨(wx b1 b2 u N).toNat, (Int.toNat_of_nonneg (wx_nn pb hN)).symm⟩
  obtain ⟨p, ep⟩ : ∃ p : Nat, k = (p : Int) := ⟨k.toNat, (Int.toNat_of_nonneg hk.p0).symm⟩
  have S1 : R_side [.d (.int (wx b1 b2 u N))] st (.d (.int k)) st := by
    rw [en, ep]
    refine .mk (by rw [← en, ← ep]; exact hk) ?_
    rw [← en]
    exact (z3.le (Km.fdiv_le (Int.mul_pos pb pb))).mono
  iterate 5 (walk_at "w")
  with_reducible apply w_asg (x := .d (.int k))
  · with_reducible apply ev_call
    · walk_at "ea"
    · exact S1
  dsimp only
  refine w_ret (x := .d (.int (wd a1 a2 b1 N k))) (s1 := st) ?_ q'
  with_reducible apply ev_if
  · walk_at "et"
  · intro c
    unfold wd
    rw [if_pos (of_decide_eq_true c)]
    walk_at "ev"
  · intro c
    unfold wd
    rw [if_neg (of_decide_eq_false c)]
    walk_at "ev"
theorem ok_below (c__law_wide : Cb P w K mg base "_law_wide" 2 [] (spF K R_wide)) (G : Fun K "_law_below" "_law_below" s__law_below f fd) : FnOk P w K mg base CX0 3 f fd ["_law_first", "_law_second"] (spF K R_below) := by
  refine G.ok sc__law_below (spF_len fun xs s x s' h => by cases h; rfl) (fun cdv A outer s H vs Q E hr ⟨M, xs, st, x, st', h, So, rx, q⟩ => ?_)
  cases h with
  | @mk a1 a2 b1 b2 c1 c2 d1 d2 u v _ h h' =>
  refine ⟨_, (pss_one (ps_ret (pe_and (pe_cmpR (opk_ne (K := K) hr.units) (pv 0) (pv 1) (nomark _)) (pe_one (pe_cmpR op_ltA (pe_cb c__law_wide (hr.mono (by decide)) (by rfl) (pa_cons (pv 0) (pa_cons (pe_op op_powA (pe_int) (pe_int)) pa_nil))) (pe_cb c__law_wide (hr.mono (by decide)) (by rfl) (pa_cons (pv 1) (pa_cons (pe_op op_powA (pe_int) (pe_int)) pa_nil))) (nomark _)))))), ?_⟩
  refine w_run So rx ?_
  try simp only [nox_K, cx_K, List.map_cons, List.map_nil]
  have q' := okr_0 q So.len
  obtain ⟨k, hk⟩ := wx_ex (b1 := b1) (u := u) h.pb (show (0 : Int) ≤ 10 ^ 40 by decide)
  obtain ⟨l, hl⟩ := wx_ex (b1 := d1) (u := v) h'.pb (show (0 : Int) ≤ 10 ^ 40 by decide)
  have iff := less_iff h h' hk hl
  have sN : Sm 140 ((10 : Int) ^ 40) := ⟨by decide⟩
  have hp : CPow 10 40 := ⟨by decide, by decide, by decide⟩
  have W1 : R_wide [.d (t3 (q2 a1 a2) (q2 b1 b2) (.int (u : Int))), .d (.int (10 ^ (40 : Int).toNat))] st (.d (.int (wd a1 a2 b1 (10 ^ 40) k))) st := .mk h.pa h.pb (by decide) h.sa.mono h.sa2.mono h.sb.mono h.sb2.mono h.um sN hk
  have W2 : R_wide [.d (t3 (q2 c1 c2) (q2 d1 d2) (.int (v : Int))), .d (.int (10 ^ (40 : Int).toNat))] st (.d (.int (wd c1 c2 d1 (10 ^ 40) l))) st := .mk h'.pa h'.pb (by decide) h'.sa.mono h'.sa2.mono h'.sb.mono h'.sb2.mono h'.um sN hl
  try dsimp only
  refine w_ret (x := .d (.bool (!PyData.eqv (t3 (q2 a1 a2) (q2 b1 b2) (.int (u : Int))) (t3 (q2 c1 c2) (q2 d1 d2) (.int (v : Int))) && decide (wd a1 a2 b1 (10 ^ 40) k < wd c1 c2 d1 (10 ^ 40) l)))) (s1 := st) ?_ (q'.is ?_)
  · with_reducible apply ev_andV
    · with_reducible apply ev_op
      · walk_at "ev"
      · walk_at "ev"
      · exact o_ne rfl rfl
    · intro _
      with_reducible apply ev_op
      · with_reducible apply ev_call
        · walk_at "ea"
        · exact W1
      · with_reducible apply ev_call
        · walk_at "ea"
        · exact W2
      · exact o_lt
    · intro _; rfl
  · rw [eqv_t3]
    congr 2
    rw [← decide_not, ← Bool.decide_and]
    refine decide_eq_decide.mpr (iff.trans ⟨fun ⟨x, y⟩ => ⟨fun z => x ⟨z.1, z.2.1, z.2.2.1, z.2.2.2.1, by have := z.2.2.2.2; omega⟩, y⟩, fun ⟨x, y⟩ => ⟨fun z => x ⟨z.1, z.2.1, z.2.2.1, z.2.2.2.1, by have := z.2.2.2.2; omega⟩, y⟩⟩) |>.symm
end
end K04
namespace K04
open PySem L2 Pw Km
/-- a lowered fraction within bounds -/
structure Fr (n d : Nat) (a1 a2 : Int) : Prop where
  p : 0 < a2
  n : a1.natAbs ≤ n
  d : a2.natAbs ≤ d
  g : Nat.gcd a1.natAbs a2.natAbs = 1
theorem gcd_lw {u v : Int} (h : v ≠ 0) : Nat.gcd (lwN u v).natAbs (lwD u v).natAbs = 1 := by
  have h' := isF_lw (u := u) h
  have h2 : (decide (0 < lwD u v) && (((Nat.gcd (lwN u v).natAbs (lwD u v).natAbs : Nat) : Int) == 1)) = true := h'
  rw [Bool.and_eq_true, beq_iff_eq] at h2
  omega
theorem fr_lw {u v : Int} {n d : Nat} (h : v ≠ 0) (hu : u.natAbs ≤ n) (hv : v.natAbs ≤ d) : Fr n d (lwN u v) (lwD u v) := ⟨lwD_pos h, Nat.le_trans (lwN_le h) hu, Nat.le_trans (lwD_le h) hv, gcd_lw h⟩
theorem fr_draw {b : Bx} {n : Nat} : Fr n 4 (lwN (drN b n) (drD b n)) (lwD (drN b n) (drD b n)) := by
  have h1 := drN_le (b := b) (n := (n : Int)) (by omega)
  have h2 := drD_le (b := b) (n := (n : Int))
  exact fr_lw (by omega) (by omega) (by omega)
theorem Fr.isF {n d : Nat} {a1 a2 : Int} (h : Fr n d a1 a2) : isF (q2 a1 a2) = true := by
  show (decide (0 < a2) && (((Nat.gcd a1.natAbs a2.natAbs : Nat) : Int) == 1)) = true
  rw [h.g, decide_eq_true h.p]
  rfl
theorem Fr.lf {n d : Nat} {a1 a2 : Int} (h : Fr n d a1 a2) (hn : n < 2 ^ 300 := by decide) (hd : d < 2 ^ 300 := by decide) : K04.Lf 300 a1 a2 := ⟨.of n h.n hn, .of d h.d hd, h.isF⟩
theorem due_ex {a1 a2 b1 b2 : Int} {m : Nat} (hm : m ≤ 1000000) : ∃ d, Due a1 a2 b1 b2 m d := by
  by_cases c : m = 0 ∨ b1 = 0
  · exact ⟨_, .z c hm⟩
  · obtain ⟨s, u, p⟩ := Prt.ex m m (Nat.le_refl _) (by omega)
    by_cases cu : u = 1
    · subst cu
      exact ⟨_, .one p (by omega) hm⟩
    · exact ⟨_, .two p (by omega) cu hm⟩
def unders : List Nat := [2, 3, 5, 6, 7, 10, 11, 13, 30, 999983, 111111, 1, 0, 4, 8]
def okU (m : Nat) : Bool := decide (m ≤ 1000000) && (List.range 1001).all fun t => decide (t < 3) || !decide (t * t ∣ m) || decide (m = 0)
theorem okU_s {m s u : Nat} (h : okU m = true) (p : Prt m s u) : s ≤ 2 ∧ m ≤ 1000000 := by
  unfold okU at h
  rw [Bool.and_eq_true, List.all_eq_true] at h
  have hm := of_decide_eq_true h.1
  refine ⟨?_, hm⟩
  rcases Nat.lt_or_ge s 3 with c | c
  · omega
  · exfalso
    have s6 : s < 1001 := by
      rcases Nat.lt_or_ge s 1001 with q | q
      · exact q
      · have := p.le
        have := Nat.mul_le_mul q q
        omega
    have e := h.2 s (List.mem_range.mpr s6)
    have e1 : decide (s < 3) = false := decide_eq_false (by omega)
    have e2 : decide (s * s ∣ m) = true := decide_eq_true ⟨u, p.eq.symm⟩
    have e3 : decide (m = 0) = false := decide_eq_false (by
      have := p.eq
      have := Nat.mul_pos (Nat.mul_pos p.s1 p.s1) p.u1
      omega)
    rw [e1, e2, e3] at e
    cases e
theorem unders_ok : unders.all okU = true := by decide +kernel
/-- a ROOT, as data -/
def RtD (d : PyData) : Prop := ∃ (a1 a2 b1 b2 : Int) (u : Nat), d = t3 (q2 a1 a2) (q2 b1 b2) (.int (u : Int)) ∧ Rt a1 a2 b1 b2 u
theorem rt_z {a1 a2 : Int} (s1 : Sm 11 a1) (s2 : Sm 5 a2) (p : 0 < a2) (g : Nat.gcd a1.natAbs a2.natAbs = 1) : Rt a1 a2 0 1 1 :=
  ⟨s1, s2, .of 0 (by decide), .of 1 (by decide), p, by decide, g, by decide, prt1, by decide, by decide⟩
where prt1 : Prt 1 1 1 := ⟨rfl, Nat.le_refl _, Nat.le_refl _, fun t ht hd => by
  have := Nat.le_of_dvd (by decide) hd
  have := Nat.mul_le_mul ht ht
  omega⟩
theorem rt_due {a1 a2 b1 b2 : Int} {m : Nat} {d : PyData} (s1 : Sm 11 a1) (s2 : Sm 5 a2) (p : 0 < a2) (g : Nat.gcd a1.natAbs a2.natAbs = 1) (hb : Fr 9 12 b1 b2) (hm : okU m = true) (h : Due a1 a2 b1 b2 m d)
    (one : ∀ s, Prt m s 1 → b1 ≠ 0 → a1.natAbs ≤ 99 ∧ a2.natAbs ≤ 4 ∧ b2.natAbs ≤ 4) : RtD d := by
  cases h with
  | z h hm => exact ⟨_, _, 0, 1, 1, rfl, rt_z s1 s2 p g⟩
  | @one a pr hb0 hm' =>
    obtain ⟨l1, l2, l3⟩ := one a pr hb0
    obtain ⟨sd, _⟩ := okU_s hm pr
    have kb : b2 * 1 ≠ 0 := by have := hb.p; omega
    have f := fr_lw (u := b1 * a) (v := b2 * 1) (n := 18) (d := 4) kb (by
      rw [Int.natAbs_mul, Int.natAbs_natCast]
      exact Nat.mul_le_mul hb.n sd) (by rw [Int.mul_one]; exact l3)
    have fp := f.p
    have kd : a2 * shD b1 b2 a ≠ 0 := Int.mul_ne_zero (by omega) (by show lwD (b1 * a) (b2 * 1) ≠ 0; omega)
    have nb : (a1 * shD b1 b2 a + shN b1 b2 a * a2).natAbs ≤ 468 := by
      have e1 : (a1 * shD b1 b2 a).natAbs ≤ 99 * 4 := by rw [Int.natAbs_mul]; exact Nat.mul_le_mul l1 f.d
      have e2 : (shN b1 b2 a * a2).natAbs ≤ 18 * 4 := by rw [Int.natAbs_mul]; exact Nat.mul_le_mul f.n l2
      omega
    have db : (a2 * shD b1 b2 a).natAbs ≤ 16 := by rw [Int.natAbs_mul]; exact Nat.mul_le_mul l2 f.d
    have F := fr_lw kd nb db
    exact ⟨_, _, 0, 1, 1, rfl, rt_z (.of 468 F.n) (.of 16 F.d) F.p F.g⟩
  | @two a u pr hb0 hu hm' =>
    obtain ⟨sd, _⟩ := okU_s hm pr
    have kb : b2 * 1 ≠ 0 := by have := hb.p; omega
    have f := fr_lw (u := b1 * a) (v := b2 * 1) (n := 18) (d := 12) kb (by
      rw [Int.natAbs_mul, Int.natAbs_natCast]
      exact Nat.mul_le_mul hb.n sd) (by rw [Int.mul_one]; exact hb.d)
    obtain ⟨_, u6⟩ := Prt.bds pr hm'
    refine ⟨_, _, _, _, u, rfl, s1, s2, .of 18 f.n, .of 12 f.d, p, f.p, g, f.g, ⟨by simp, Nat.le_refl _, pr.u1, pr.free⟩, u6, ⟨fun z => absurd z hu, fun z => absurd z (lwN_nz (Int.mul_ne_zero hb0 (by have := pr.s1; omega)) kb)⟩⟩
theorem pickM {b : Bx} {ds : List Nat} (h : 0 < ds.length) : ∃ m : Nat, (ds.map fun m : Nat => PyData.int (m : Int))[(tkR b (ds.length : Nat)).toNat]? = some (.int (m : Int)) ∧ m ∈ ds := by
  have r := tk_r (b := b) (n := ((ds.length : Nat) : Int)) (by omega)
  have hi : (tkR b ((ds.length : Nat) : Int)).toNat < ds.length := by omega
  exact ⟨ds[(tkR b ((ds.length : Nat) : Int)).toNat], by rw [List.getElem?_map, List.getElem?_eq_getElem hi]; rfl, List.getElem_mem hi⟩
end K04
namespace K04
open PySem L2 Pw Km
inductive R_some : Gr
  | mk {l b b' c s} {ds : List PyData} (hl : s[l]? = some (bxl b)) (hc : Bk c b) (hc2 : c + 40 ≤ 2 ^ 40) (hd : ∀ d ∈ ds, RtD d) (hz : ds.length = 10) (hb : Bk (c + 40) b') : R_some [.loc l] s (.d (.list ds)) (s.set l (bxl b'))
theorem rt_dat {d : PyData} (h : RtD d) : ∃ (a1 a2 b1 b2 : Int) (u : Nat), d = t3 (q2 a1 a2) (q2 b1 b2) (.int (u : Int)) ∧ Rt a1 a2 b1 b2 u := h
theorem rt_ex0 : RtD (t3 (q2 0 1) (q2 0 1) (.int 1)) := ⟨0, 1, 0, 1, 1, rfl, rt_z (.of 0 (by decide)) (.of 1 (by decide)) (by decide) (by decide)⟩
theorem some_ex {l : Nat} {b : Bx} {c : Nat} {s : Sto} (hl : s[l]? = some (bxl b)) (hc : Bk c b) (hc2 : c + 40 ≤ 2 ^ 40) : ∃ x s', R_some [.loc l] s x s' :=
  ⟨_, _, .mk (ds := List.replicate 10 (t3 (q2 0 1) (q2 0 1) (.int 1))) (b' := b) hl hc hc2 (fun d h => by rw [List.eq_of_mem_replicate h]; exact rt_ex0) (by simp) (hc.mono (by omega))⟩
def u5 : List Nat := [2, 3, 5, 7, 11]
theorem u5_ok : u5.all okU = true := by decide +kernel
def abI (i : Int) : Int := if i < 0 then -i else i
theorem fr_self {a1 a2 : Int} {u v : Int} (h : v ≠ 0) : ∃ x y, x = lwN u v ∧ y = lwD u v := ⟨_, _, rfl, rfl⟩
theorem step1 {l : Nat} {b : Bx} {c : Nat} {s : Sto} (hl : s[l]? = some (bxl b)) (hc : Bk c b) (hc2 : c + 10 ≤ 2 ^ 40) :
    ∃ (N m : Nat) (a1 a2 b1 b2 : Int) (b1x b2x b3x b4x : Bx), Bk (c + 6) b4x ∧ Fr 99 4 a1 a2 ∧ Fr 9 4 b1 b2 ∧ okU m = true ∧
      atI ([.int 3, .int 99] : List PyData) (tkR b 2) = some (.int (N : Int)) ∧ 
      R_take [.loc l, .d (.int 2)] s (.d (.int (tkR b 2))) (s.set l (bxl (tkB b 2))) ∧
      R_draw [.loc l, .d (.int (N : Int))] (s.set l (bxl (tkB b 2))) (.d (q2 a1 a2)) (s.set l (bxl b2x)) ∧
      R_draw [.loc l, .d (.int 9)] (s.set l (bxl b2x)) (.d (q2 b1 b2)) (s.set l (bxl b3x)) ∧
      R_of [.loc l, .d (.list (unders.map fun m : Nat => .int (m : Int)))] (s.set l (bxl b3x)) (.d (.int (m : Int))) (s.set l (bxl b4x)) := by
  have r := tk_r (b := b) (n := 2) (by decide)
  obtain ⟨N, hN, hA⟩ : ∃ N : Nat, N ≤ 99 ∧ atI ([.int 3, .int 99] : List PyData) (tkR b 2) = some (.int (N : Int)) := by
    rcases (show tkR b 2 = 0 ∨ tkR b 2 = 1 by omega) with e | e
    · exact ⟨3, by decide, by rw [e]; rfl⟩
    · exact ⟨99, by decide, by rw [e]; rfl⟩
  have k1 : Bk (c + 1) (tkB b 2) := hc.next
  have k2 : Bk (c + 3) (drB (tkB b 2) N) := k1.draw
  have k3 : Bk (c + 5) (drB (drB (tkB b 2) N) 9) := k2.draw
  obtain ⟨m, hm, hmem⟩ := pickM (b := drB (drB (tkB b 2) N) 9) (ds := unders) (by decide)
  have k4 : Bk (c + 6) (tkB (drB (drB (tkB b 2) N) 9) ((15 : Nat) : Int)) := k3.next
  have D1 : R_draw [.loc l, .d (.int (N : Int))] (s.set l (bxl (tkB b 2))) _ _ := .mk (gs hl) (by omega) (by omega) k1 (by omega)
  rw [List.set_set, List.set_set] at D1
  have D2 : R_draw [.loc l, .d (.int 9)] (s.set l (bxl (drB (tkB b 2) N))) _ _ := .mk (gs hl) (by omega) (by omega) k2 (by omega)
  rw [List.set_set, List.set_set] at D2
  have D3 : R_of [.loc l, .d (.list (unders.map fun m : Nat => .int (m : Int)))] (s.set l (bxl (drB (drB (tkB b 2) N) 9))) _ _ := R_of.mk (ds := unders.map fun m : Nat => .int (m : Int)) (gs hl) (by decide) (by decide) k3 (by omega) hm
  rw [List.set_set] at D3
  have F1 := fr_draw (b := tkB b 2) (n := N)
  exact ⟨N, m, _, _, _, _, b, _, _, _, k4, ⟨F1.p, Nat.le_trans F1.n hN, F1.d, F1.g⟩, fr_draw (n := 9), List.all_eq_true.mp unders_ok m hmem, hA, .mk hl (by decide) (by decide) hc (by omega), D1, D2, D3⟩
end K04
namespace K04
open PySem L2 Pw Km
theorem wd_sm {a1 a2 b1 b2 N k : Int} {u : Nat} (pa : 0 < a2) (pb : 0 < b2) (s1 : Sm 11 a1) (s3 : Sm 5 b1) (su : u ≤ 1000000) (sN : Sm 4 N) (hk : Sq (wx b1 b2 u N) k) : Sm 100 (wd a1 a2 b1 N k) := by
  have b0 := Int.mul_pos pb pb
  have zu : Sm 20 (u : Int) := smn 1000000 su
  have f1 : Sm 15 ((a1 * N).fdiv a2) := (s1.mul sN).le (fdiv_le pa)
  have f2 : Sm 38 (wx b1 b2 u N) := ((((s3.mul s3).mul zu).mul sN).mul sN).le (fdiv_le b0)
  have f3 : Sm 38 k := f2.le (by
    have k0 := hk.p0
    have := hk.lo
    have : k ≤ k * k := by
      rcases Int.lt_or_le k 1 with c | c
      · have : k = 0 := by omega
        subst this; decide
      · have := Int.mul_le_mul_of_nonneg_right c k0
        omega
    omega)
  unfold wd
  split
  · exact ((f1.mono (m := 38)).add f3).mono
  · exact ((f1.mono (m := 38)).sub f3).mono
theorem atI_0 {α : Type} {a : α} {l : List α} : atI (a :: l) 0 = some a := by simp [atI, ixN]
theorem set_self {s : Sto} {l : Nat} {X : List PyData} (h : s[l]? = some X) : s.set l X = s := by
  obtain ⟨h1, rfl⟩ := List.getElem?_eq_some_iff.mp h
  exact List.set_getElem_self h1
section
local macro_rules | `(tactic| walk_at "sd") => `(tactic| first | rfl | assumption | exact Nat.le_of_ble_eq_true rfl | decide | omega | (walk_at "sd2"))
local macro_rules | `(tactic| walk_at "sd2") => `(tactic| first | exact cm_sm (by assumption) (by assumption) | exact cf_sm (by assumption) (by assumption) | ((with_reducible apply gs); (walk_at "sd")) | exact cm_fm7 | exact cm_if | exact cm_l (by omega) (by omega) | exact cm_r (by omega) (by omega) | exact cf_c (by omega) (by omega))
local macro_rules | `(tactic| walk_at "isi") => `(tactic| with_reducible first | exact kit_int | exact kit_bool | exact kit_tuple | exact kit_list | exact kit_str)
local macro_rules | `(tactic| walk_at "und") => `(tactic| with_reducible repeat (first | exact Und.nil | apply Und.cons))
local macro_rules | `(tactic| walk_at "op") => `(tactic| (first
  | with_reducible exact o_add | with_reducible exact o_minus | with_reducible exact o_lt | with_reducible exact o_gt | with_reducible exact o_le | with_reducible exact o_ge | with_reducible exact o_neg
  | with_reducible exact o_isN | with_reducible exact o_isntN | with_reducible exact o_isB | with_reducible exact o_isntB | with_reducible exact o_neS | with_reducible exact o_eqS
  | with_reducible exact o_abs | with_reducible exact o_intB | with_reducible exact o_min2 | with_reducible exact o_max2 | with_reducible exact o_lenL | with_reducible exact o_lenT | with_reducible exact o_lenC | with_reducible exact o_gcd
  | with_reducible apply o_ixT | with_reducible apply o_ixL | with_reducible apply o_ixM | with_reducible apply o_ixS | with_reducible apply o_lenM
  | with_reducible apply o_mul | with_reducible apply o_fdiv | with_reducible apply o_mod | with_reducible apply o_pow | with_reducible apply o_eq | with_reducible apply o_ne | with_reducible apply o_catT | with_reducible apply o_repr | with_reducible apply o_all) <;> walk_at "sd")
local macro_rules | `(tactic| walk_at "opn") => `(tactic| (first
  | with_reducible apply o_cat | with_reducible apply o_repI | with_reducible exact o_listT | with_reducible exact o_listL) <;> walk_at "sd")
local macro_rules | `(tactic| walk_at "ea") => `(tactic| first
  | with_reducible exact eva_nil
  | ((with_reducible apply eva_cons); (walk_at "ev"); (walk_at "ea")))
local macro_rules | `(tactic| walk_at "call") => `(tactic| fail)
local macro_rules | `(tactic| walk_at "evn") => `(tactic| first
  | ((with_reducible apply evn_lstU); (walk_at "ea"); (walk_at "und"); (walk_at "sd"))
  | ((with_reducible apply evn_op); (walk_at "ev"); (walk_at "ev"); (walk_at "opn"))
  | ((with_reducible apply evn_cb); (walk_at "ea"); (walk_at "opn"))
  | ((with_reducible apply evn_call); (walk_at "ea"); (walk_at "call")))
local macro_rules | `(tactic| walk_at "ev") => `(tactic| first
  | with_reducible exact ev_int | with_reducible exact ev_bl | with_reducible exact ev_non | with_reducible exact ev_str
  | ((with_reducible apply ev_var); rfl)
  | ((with_reducible apply ev_op); (walk_at "ev"); (walk_at "ev"); (walk_at "op"))
  | ((with_reducible apply ev_un); (walk_at "ev"); (walk_at "op"))
  | ((with_reducible apply ev_call); (walk_at "ea"); (walk_at "call"))
  | ((with_reducible apply ev_callD); (walk_at "ea"); (intro _ _; exact rxs_1); (walk_at "call"))
  | ((with_reducible apply ev_callK); (walk_at "ea"); rfl; (intro _ _ _ hh; first | exact rxs_swap2 hh | exact rxs_same1 hh); (walk_at "call"))
  | ((with_reducible apply ev_isi); (walk_at "ev"); (walk_at "isi"))
  | ((with_reducible apply ev_isi2); (walk_at "ev"); (walk_at "isi"); (walk_at "isi"))
  | ((with_reducible apply ev_cb); (walk_at "ea"); (walk_at "op"))
  | ((with_reducible apply ev_tupU); (walk_at "ea"); (walk_at "und"); (walk_at "sd"))
  | ((with_reducible apply ev_new); (walk_at "evn"))
  | ((with_reducible apply ev_slT); (walk_at "ev"); (walk_at "eo"); (walk_at "eo"))
  | ((with_reducible apply ev_andV); (walk_at "ev"); (intro _; walk_at "ev"); (intro _; rfl))
  | ((with_reducible apply ev_orV); (walk_at "ev"); (intro _; walk_at "ev"); (intro _; rfl))
  | ((with_reducible apply ev_notV); (walk_at "ev")))
local macro_rules | `(tactic| walk_at "eo") => `(tactic| first
  | with_reducible exact eo_none
  | ((with_reducible apply eo_some); (walk_at "ev")))
local macro_rules | `(tactic| walk_at "et") => `(tactic| first
  | ((with_reducible apply et_test); (walk_at "ev"))
  | ((with_reducible apply et_B); (walk_at "ev"))
  | ((with_reducible apply et_not); (walk_at "et"))
  | ((with_reducible apply et_and); (walk_at "et"); (intro _; walk_at "et"); (intro _; rfl))
  | ((with_reducible apply et_or); (walk_at "et"); (intro _; walk_at "et"); (intro _; rfl)))
local macro_rules | `(tactic| walk_at "w") => `(tactic| first
  | (with_reducible apply w_seq)
  | (with_reducible apply w_next)
  | ((with_reducible apply w_asg); (walk_at "ev"))
  | ((with_reducible apply w_ret); (walk_at "ev"))
  | ((with_reducible apply w_drop); (walk_at "ev"))
  | ((with_reducible apply w_par); (walk_at "ea"))
  | ((with_reducible apply w_tup2); (walk_at "ev"))
  | ((with_reducible apply w_tup3); (walk_at "ev"))
  | ((with_reducible apply w_setI); (walk_at "ev"); (walk_at "ev"); (walk_at "ev"); (walk_at "sd"); (walk_at "sd"))
  | ((with_reducible apply w_if); (walk_at "et")))

variable {P : Program} {w : World} {K : Pw.Fg} {mg : Str → Option Value} {base : Heap} {f : Addr} {fd : FuncData} {ζ : ZA}
theorem ok_some (Z : Zx K mg ζ) (c__law_take : Cb P w K mg base "_law_take" 1 [] (spF K R_take)) (c__law_of : Cb P w K mg base "_law_of" 2 [] (spF K R_of)) (c__law_frac : Cb P w K mg base "_law_frac" 1 [] (spF K R_frac)) (c__law_draw : Cb P w K mg base "_law_draw" 3 [] (spF K R_draw)) (c__law_wide : Cb P w K mg base "_law_wide" 2 [] (spF K R_wide)) (c_rooted : Cb P w K mg base "rooted" 3 [] (spF K R_rooted))
    (G : Fun K "_law_some" "_law_some" s__law_some f fd) : FnOk P w K mg base CX0 4 f fd ["_law_box_here"] (spP K R_some) := by
  refine G.ok sc__law_some (spP_len fun xs s x s' h => by cases h; rfl) (fun cdv A outer s H vs Q E hr ⟨M, xs, st, ⟨x, st', h⟩, So, rx, q⟩ => ?_)
  cases h with
  | @mk l b b' c ds0 _ hl hc hc2 _ _ _ =>
  refine ⟨_, (pss_cons (ps_set (i := 1) sc__law_some.nd rfl (.inl rfl) (pe_lst (pa_cons (pe_int) (pa_cons (pe_int) (pa_cons (pe_int) (pa_cons (pe_int) (pa_cons (pe_int) (pa_cons (pe_int) (pa_cons (pe_int) (pa_cons (pe_int) (pa_cons (pe_int) (pa_cons (pe_int) (pa_cons (pe_op op_fdivA (pe_int) (pe_int)) (pa_cons (pe_int) (pa_cons (pe_int) (pa_cons (pe_int) (pa_cons (pe_int) pa_nil)))))))))))))))))
      (pss_cons (ps_set (i := 2) sc__law_some.nd rfl (.inl rfl) (pe_lst pa_nil))
      (pss_cons (ps_for PassesOwn.never rfl (pi_range1 (by rfl) Z.z_range (pa_cons (pe_int) pa_nil)) (pg_name (i := 3) sc__law_some.nd rfl (Or.inl rfl)) (pss_cons (ps_par3 (i := 4) (j := 5) (l := 6) (by rfl) sc__law_some.nd rfl rfl rfl (by decide) (by decide) (by decide) rfl rfl rfl (pa_cons (pe_cb c__law_draw (hr.mono (by decide)) (by rfl) (pa_cons (pv 0) (pa_cons (pe_ix (ixk (K := K)) (pe_lst (pa_cons (pe_int) (pa_cons (pe_int) pa_nil))) (pe_cb c__law_take (hr.mono (by decide)) (by rfl) (pa_cons (pv 0) (pa_cons (pe_int) pa_nil))) (fun _ _ => rfl)) pa_nil))) (pa_cons (pe_cb c__law_draw (hr.mono (by decide)) (by rfl) (pa_cons (pv 0) (pa_cons (pe_int) pa_nil))) (pa_cons (pe_cb c__law_of (hr.mono (by decide)) (by rfl) (pa_cons (pv 0) (pa_cons (pv 1) pa_nil))) pa_nil))) (by rfl))
      (pss_one (ps_expr (pe_bm PySem.F.plainAttrs_list PySem.F.slot_list_append PySem.F.type_list_append mt_append (pv 2) (pa_cons (pe_cb c_rooted (hr.mono (by decide)) (by rfl) (pa_cons (pv 4) (pa_cons (pv 5) (pa_cons (pv 6) pa_nil)))) pa_nil))))))
      (pss_cons (ps_set (i := 7) sc__law_some.nd rfl (.inl rfl) (pe_cb c__law_of (hr.mono (by decide)) (by rfl) (pa_cons (pv 0) (pa_cons (pv 2) pa_nil))))
      (pss_cons (ps_set (i := 8) sc__law_some.nd rfl (.inl rfl) (pe_cb c__law_of (hr.mono (by decide)) (by rfl) (pa_cons (pv 0) (pa_cons (pe_lst (pa_cons (pe_int) (pa_cons (pe_int) (pa_cons (pe_int) (pa_cons (pe_int) (pa_cons (pe_int) pa_nil)))))) pa_nil))))
      (pss_cons (ps_set (i := 9) sc__law_some.nd rfl (.inl rfl) (pe_cb c__law_frac (hr.mono (by decide)) (by rfl) (pa_cons (pe_cb c__law_wide (hr.mono (by decide)) (by rfl) (pa_cons (pv 7) (pa_cons (pe_int) pa_nil))) (pa_cons (pe_int) pa_nil))))
      (pss_cons (ps_set (i := 9) sc__law_some.nd rfl (.inl rfl) (pe_ifExp (pt_cmpR op_ltA (pe_callB cb_abs (by rfl) Z.z_abs bt_abs (pa_cons (pe_ix (ixk (K := K)) (pv 9) (pe_int) (fun _ _ => rfl)) pa_nil)) (pe_int) (nomark _)) (pv 9) (pe_tup (pa_cons (pe_int) (pa_cons (pe_int) pa_nil)))))
      (pss_cons (ps_set (i := 2) sc__law_some.nd rfl (.inl rfl) (pe_op (opk_plus (K := K)) (pv 2) (pe_lst (pa_cons (pe_cb c_rooted (hr.mono (by decide)) (by rfl) (pa_cons (pv 9) (pa_cons (pe_tup (pa_cons (pe_int) (pa_cons (pe_int) pa_nil))) (pa_cons (pe_int) pa_nil)))) (pa_cons (pe_cb c_rooted (hr.mono (by decide)) (by rfl) (pa_cons (pv 9) (pa_cons (pe_tup (pa_cons (pe_int) (pa_cons (pe_int) pa_nil))) (pa_cons (pv 8) pa_nil)))) (pa_cons (pe_cb c_rooted (hr.mono (by decide)) (by rfl) (pa_cons (pe_ix (ixk (K := K)) (pv 7) (pe_int) (fun _ _ => rfl)) (pa_cons (pe_cb c__law_frac (hr.mono (by decide)) (by rfl) (pa_cons (pe_un un_negA (pe_int)) (pa_cons (pe_int) pa_nil))) (pa_cons (pv 8) pa_nil)))) pa_nil))))))
      (pss_one (ps_ret (pe_op (opk_plus (K := K)) (pv 2) (pe_lst (pa_cons (pv 7) (pa_cons (pe_ix (ixk (K := K)) (pv 2) (pe_int) (fun _ _ => rfl)) pa_nil)))))))))))))), ?_⟩
  refine w_run So rx ?_
  try simp only [nox_K, cx_K, List.map_cons, List.map_nil]
  have hlen : l < st.length := (List.getElem?_eq_some_iff.mp hl).1
  walk_at "w"
  refine w_asg (x := .d (.list (unders.map fun m : Nat => .int (m : Int)))) (s1 := st) ?_ ?_
  · show Ev K _ _ _ (.d (.list [.int 2, .int 3, .int 5, .int 6, .int 7, .int 10, .int 11, .int 13, .int 30, .int 999983, .int 111111, .int 1, .int 0, .int 4, .int 8])) _
    refine ev_new (evn_lstU (xs := [.d (.int 2), .d (.int 3), .d (.int 5), .d (.int 6), .d (.int 7), .d (.int 10), .d (.int 11), .d (.int 13), .d (.int 30), .d (.int 999983), .d (.int 111111), .d (.int 1), .d (.int 0), .d (.int 4), .d (.int 8)]) ?_ ?_ ?_)
    · iterate 10 refine eva_cons ev_int ?_
      refine eva_cons (s1 := st) ?_ ?_
      · apply Ev.is
        · with_reducible apply ev_op
          · exact ev_int
          · exact ev_int
          · exact o_fdiv ⟨by decide, by decide⟩
        · rfl
      · iterate 4 refine eva_cons ev_int ?_
        exact eva_nil
    · walk_at "und"
    · decide
  walk_at "w"
  refine w_asgN (s1 := st) (ds := []) ?_ ?_
  · exact evn_lstU eva_nil .nil (by decide)
  walk_at "w"
  dsimp only
  refine w_forR (c := 5) (s1 := st ++ [[]]) ?_ (by decide) (fun i ρ s => ∃ b' ds x3 x4 x5 x6, ρ = [some (.loc l), some (.d (.list (unders.map fun m : Nat => .int (m : Int)))), some (.loc st.length), x3, x4, x5, x6, none, none, none] ∧ s = st.set l (bxl b') ++ [ds] ∧ Bk (c + 6 * i) b' ∧ ds.length = i ∧ ∀ d ∈ ds, RtD d)
    ⟨b, [], none, none, none, none, rfl, by rw [set_self hl], hc.mono (by omega), rfl, fun d h => by cases h⟩ ?_ ?_
  · exact eva_cons ev_int eva_nil
  · rintro i ρ s2 N hi ⟨b', ds, x3, x4, x5, x6, rfl, rfl, hb, hn, hd⟩ hN
    obtain ⟨NN, m, a1, a2, b1, b2, bx, b2x, b3x, b4x, k4, F1, F2, hm, hA, T1, D1, D2, D3⟩ := step1 (get_app2 (ds := ds) (X := bxl b') hlen) hb (by omega)
    rw [set_app hlen] at T1
    rw [set_app hlen, set_app hlen] at D1
    rw [set_app hlen, set_app hlen] at D2
    rw [set_app hlen, set_app hlen] at D3
    obtain ⟨dd, due⟩ := due_ex (a1 := a1) (a2 := a2) (b1 := b1) (b2 := b2) (of_decide_eq_true (by unfold okU at hm; rw [Bool.and_eq_true] at hm; exact hm.1) : m ≤ 1000000)
    have RT : RtD dd := rt_due (.of 99 F1.n) (.of 4 F1.d) F1.p F1.g ⟨F2.p, F2.n, Nat.le_trans F2.d (by decide), F2.g⟩ hm due (fun s p h => ⟨F1.n, F1.d, F2.d⟩)
    have RO : R_rooted [.d (q2 a1 a2), .d (q2 b1 b2), .d (.int (m : Int))] (st.set l (bxl b4x) ++ [ds]) (.d dd) (st.set l (bxl b4x) ++ [ds]) := .mk F1.lf F2.lf due
    dsimp only [List.set]
    walk_at "w"
    refine w_par3 (x := .d (q2 a1 a2)) (y := .d (q2 b1 b2)) (z := .d (.int (m : Int))) (s1 := st.set l (bxl b4x) ++ [ds]) ?_ ?_
    · refine eva_cons (ev_call (eva_cons (ev_var rfl) (eva_cons (ev_op (ev_new (evn_lstU (eva_cons ev_int (eva_cons ev_int eva_nil)) (.cons (.cons .nil)) (by decide))) (ev_call ?_ T1) (o_ixL hA)) eva_nil)) D1) (eva_cons (ev_call ?_ D2) (eva_cons (ev_call ?_ D3) eva_nil))
      · walk_at "ea"
      · walk_at "ea"
      · walk_at "ea"
    dsimp only [List.set]
    refine w_app (l := st.length) (s1 := st.set l (bxl b4x) ++ [ds]) (ds := ds) (d := dd) (ev_var rfl) ?_ get_last (by omega) ?_ ⟨_, get_last⟩
    · refine eva_cons (ev_call ?_ RO) eva_nil
      walk_at "ea"
    rw [set_last]
    refine hN _ _ ⟨b4x, ds ++ [dd], _, _, _, _, rfl, rfl, k4.mono (by omega), by rw [List.length_append, hn]; rfl, fun d h => ?_⟩
    rcases List.mem_append.mp h with h | h
    · exact hd d h
    · rw [List.mem_singleton.mp h]
      exact RT
  · rintro ρ s2 ⟨b', ds, x3, x4, x5, x6, rfl, rfl, hb, hn, hd⟩
    refine w_wk (ρ' := [some (.loc l), some (.d (.list (unders.map fun m : Nat => .int (m : Int)))), some (.loc st.length), none, none, none, none, none, none, none]) (.same (.same (.same (.none (.none (.none (.none (.none (.none (.none .nil)))))))))) ?_
    refine w_freeze (n := 2) (by rw [List.length_set]; rfl) ?_ (by rw [List.length_set, So.len]; exact Nat.le_refl _) ⟨by rw [List.length_set]; omega, trivial⟩
    dsimp only [List.set]
    have hl2 : (st.set l (bxl b'))[l]? = some (bxl b') := List.getElem?_set_self hlen
    obtain ⟨d1, p1, p2⟩ := pick (ds := ds) (b := b') (by omega)
    have RD := hd d1 p2
    obtain ⟨a1, a2, b1, b2, u, rfl, R⟩ := RD
    have O1 : R_of [.loc l, .d (.list ds)] (st.set l (bxl b')) _ _ := .mk hl2 (by omega) (by omega) hb (by omega) p1
    rw [List.set_set] at O1
    generalize hb2 : tkB b' (ds.length : Nat) = bb at O1
    have kb : Bk (c + 31) bb := by rw [← hb2]; exact (hb.next (n := ((ds.length : Nat) : Int))).mono (by omega)
    have hl3 : (st.set l (bxl bb))[l]? = some (bxl bb) := List.getElem?_set_self hlen
    obtain ⟨m, p3, p4⟩ := pickM (b := bb) (ds := u5) (by decide)
    have O2 : R_of [.loc l, .d (.list (u5.map fun m : Nat => .int (m : Int)))] (st.set l (bxl bb)) _ _ := .mk hl3 (by decide) (by decide) kb (by omega) p3
    rw [List.set_set] at O2
    generalize hb3 : tkB bb _ = b3 at O2
    have kb3 : Bk (c + 32) b3 := by rw [← hb3]; exact kb.next
    have hm := List.all_eq_true.mp u5_ok m p4
    have m6 : m ≤ 1000000 := of_decide_eq_true (by unfold okU at hm; rw [Bool.and_eq_true] at hm; exact hm.1)
    obtain ⟨k, hk⟩ := wx_ex (b1 := b1) (u := u) (N := 12) R.pb (by decide)
    have WD : R_wide [.d (t3 (q2 a1 a2) (q2 b1 b2) (.int (u : Int))), .d (.int 12)] (st.set l (bxl b3)) (.d (.int (wd a1 a2 b1 12 k))) (st.set l (bxl b3)) := .mk R.pa R.pb (by decide) R.sa.mono R.sa2.mono R.sb.mono R.sb2.mono R.um (.of 12 (by decide)) hk
    have sw := wd_sm R.pa R.pb R.sa R.sb R.um (.of 12 (by decide)) hk
    generalize wd a1 a2 b1 12 k = wv at WD sw
    have s12 : Sm 4 (12 : Int) := .of 12 (by decide)
    have k12 : (12 : Int) ≠ 0 := by decide
    have FR : R_frac [.d (.int wv), .d (.int 12)] (st.set l (bxl b3)) (.d (q2 (lwN wv 12) (lwD wv 12))) (st.set l (bxl b3)) := fr_mk sw s12 k12
    have f0 := fr_lw (u := wv) (v := 12) (n := wv.natAbs) (d := 12) k12 (Nat.le_refl _) (by decide)
    obtain ⟨e1, e2, FE, c1, c2⟩ : ∃ e1 e2, Fr 99 12 e1 e2 ∧ (decide ((if lwN wv 12 < 0 then -lwN wv 12 else lwN wv 12) < 100) = true → e1 = lwN wv 12 ∧ e2 = lwD wv 12) ∧ (decide ((if lwN wv 12 < 0 then -lwN wv 12 else lwN wv 12) < 100) = false → e1 = 1 ∧ e2 = 1) := by
      by_cases cc : (if lwN wv 12 < 0 then -lwN wv 12 else lwN wv 12) < 100
      · rw [abs_if] at cc
        exact ⟨_, _, ⟨f0.p, by omega, f0.d, f0.g⟩, fun _ => ⟨rfl, rfl⟩, fun z => absurd (by rw [abs_if]; omega) (of_decide_eq_false z)⟩
      · exact ⟨1, 1, ⟨by decide, by decide, by decide, by decide⟩, fun z => absurd (of_decide_eq_true z) cc, fun _ => ⟨rfl, rfl⟩⟩
    have Fz : Fr 9 12 0 1 := ⟨by decide, by decide, by decide, by decide⟩
    have Ft : Fr 9 12 1 12 := ⟨by decide, by decide, by decide, by decide⟩
    have Fm : Fr 9 12 (-1) 1 := ⟨by decide, by decide, by decide, by decide⟩
    have se1 : Sm 11 e1 := .of 99 FE.n
    have se2 : Sm 5 e2 := .of 12 FE.d
    have no1 : ∀ {x : Int} (s : Nat), Prt m s 1 → x ≠ 0 → False := fun s p _ => by
      obtain ⟨s2, _⟩ := okU_s hm p
      have e := p.eq
      have s1 := p.s1
      have h4 : ∀ m ∈ u5, m ≠ 1 ∧ m ≠ 4 := by decide
      obtain ⟨n1, n4⟩ := h4 m p4
      rcases (show s = 1 ∨ s = 2 by omega) with z | z <;> subst z <;> omega
    obtain ⟨g1, u1⟩ := due_ex (a1 := e1) (a2 := e2) (b1 := 0) (b2 := 1) (m := 1) (by decide)
    obtain ⟨g2, u2⟩ := due_ex (a1 := e1) (a2 := e2) (b1 := 1) (b2 := 12) m6
    obtain ⟨g3, u3⟩ := due_ex (a1 := a1) (a2 := a2) (b1 := -1) (b2 := 1) m6
    have r1 : RtD g1 := rt_due se1 se2 FE.p FE.g Fz (by decide +kernel) u1 (fun s p h => absurd rfl h)
    have r2 : RtD g2 := rt_due se1 se2 FE.p FE.g Ft hm u2 (fun s p h => (no1 s p h).elim)
    have r3 : RtD g3 := rt_due R.sa R.sa2 R.pa R.ga Fm hm u3 (fun s p h => (no1 s p h).elim)
    have LA : Lf 300 a1 a2 := ⟨R.sa.mono, R.sa2.mono, by
      show (decide (0 < a2) && (((Nat.gcd a1.natAbs a2.natAbs : Nat) : Int) == 1)) = true
      rw [R.ga, decide_eq_true R.pa]
      rfl⟩
    have RO1 : R_rooted [.d (q2 e1 e2), .d (q2 0 1), .d (.int 1)] (st.set l (bxl b3)) (.d g1) (st.set l (bxl b3)) := .mk (m := 1) FE.lf Fz.lf u1
    have RO2 : R_rooted [.d (q2 e1 e2), .d (q2 1 12), .d (.int (m : Int))] (st.set l (bxl b3)) (.d g2) (st.set l (bxl b3)) := .mk FE.lf Ft.lf u2
    have RO3 : R_rooted [.d (q2 a1 a2), .d (q2 (-1) 1), .d (.int (m : Int))] (st.set l (bxl b3)) (.d g3) (st.set l (bxl b3)) := .mk LA Fm.lf u3
    have FM : R_frac [.d (.int (-1)), .d (.int 1)] (st.set l (bxl b3)) (.d (q2 (-1) 1)) (st.set l (bxl b3)) := by
      have := fr_mk (s := st.set l (bxl b3)) (Sm.of (n := 1) (i := -1) 1 (by decide)) (Sm.of (n := 1) (i := 1) 1 (by decide)) (by decide : (1 : Int) ≠ 0)
      rw [lw1] at this
      exact this
    have lst1 : ds.length + [g1, g2, g3].length ≤ 1000000 := by simp; omega
    obtain ⟨t0, tl, et⟩ : ∃ t0 tl, ds = t0 :: tl := by
      cases ds with
      | nil => simp at hn
      | cons a b => exact ⟨_, _, rfl⟩
    walk_at "w"
    with_reducible apply w_asg (x := .d (t3 (q2 a1 a2) (q2 b1 b2) (.int (u : Int))))
    · with_reducible apply ev_call
      · walk_at "ea"
      · exact O1
    walk_at "w"
    with_reducible apply w_asg (x := .d (.int (m : Int)))
    · with_reducible apply ev_call
      · refine eva_cons (ev_var rfl) (eva_cons (x := .d (.list (u5.map fun m : Nat => .int (m : Int)))) (s1 := st.set l (bxl bb)) ?_ eva_nil)
        show Ev K _ _ _ (.d (.list [.int 2, .int 3, .int 5, .int 7, .int 11])) _
        walk_at "ev"
      · exact O2
    walk_at "w"
    with_reducible apply w_asg (x := .d (q2 (lwN wv 12) (lwD wv 12)))
    · with_reducible apply ev_call
      · with_reducible apply eva_cons
        · with_reducible apply ev_call
          · walk_at "ea"
          · exact WD
        · walk_at "ea"
      · exact FR
    walk_at "w"
    with_reducible apply w_asg (x := .d (q2 e1 e2)) (s1 := st.set l (bxl b3))
    · with_reducible apply ev_if
      · walk_at "et"
      · intro cc
        obtain ⟨rfl, rfl⟩ := c1 cc
        walk_at "ev"
      · intro cc
        obtain ⟨rfl, rfl⟩ := c2 cc
        walk_at "ev"
    walk_at "w"
    refine w_asg (x := .d (.list (ds ++ [g1, g2, g3]))) (s1 := st.set l (bxl b3)) ?_ ?_
    · refine ev_new (evn_op (ev_var rfl) (ev_new (evn_lstU (xs := [.d g1, .d g2, .d g3]) ?_ (.cons (.cons (.cons .nil))) (Nat.le_of_ble_eq_true rfl))) (o_cat lst1))
      refine eva_cons (ev_call ?_ RO1) (eva_cons (ev_call ?_ RO2) (eva_cons (ev_call ?_ RO3) eva_nil))
      · walk_at "ea"
      · walk_at "ea"
      · with_reducible apply eva_cons
        · walk_at "ev"
        · with_reducible apply eva_cons
          · with_reducible apply ev_call
            · walk_at "ea"
            · exact FM
          · walk_at "ea"
    try dsimp only
    refine w_ret (x := .d (.list ((ds ++ [g1, g2, g3]) ++ [t3 (q2 a1 a2) (q2 b1 b2) (.int (u : Int)), t0]))) (s1 := st.set l (bxl b3)) ?_ (okr_0 (q _ _ (.mk hl hc hc2 (fun d h => ?_) ?_ (kb3.mono (by omega)))) (by rw [List.length_set]; exact So.len))
    · refine ev_new (evn_op (ev_var rfl) (ev_new (evn_lstU (xs := [.d (t3 (q2 a1 a2) (q2 b1 b2) (.int (u : Int))), .d t0]) ?_ (.cons (.cons .nil)) (Nat.le_of_ble_eq_true rfl))) (o_cat (by simp; omega)))
      refine eva_cons (ev_var rfl) (eva_cons (ev_op (ev_var rfl) ev_int (o_ixL ?_)) eva_nil)
      rw [et]
      exact atI_0
    · have h1 : ∀ d ∈ ds ++ [g1, g2, g3], RtD d := fun d h => by
        rcases List.mem_append.mp h with h | h
        · exact hd d h
        · simp at h
          rcases h with rfl | rfl | rfl
          · exact r1
          · exact r2
          · exact r3
      rcases List.mem_append.mp h with h | h
      · exact h1 d h
      · simp at h
        rcases h with rfl | rfl
        · exact ⟨_, _, _, _, _, rfl, R⟩
        · exact hd _ (by rw [et]; simp)
    · simp
      omega
end
end K04
namespace K04
open PySem L2 Pw Km
theorem prt236 {u : Nat} (hu : u = 2 ∨ u = 3 ∨ u = 6) : Prt u 1 u := ⟨by simp, Nat.le_refl _, by omega, fun t ht hd => by
  have t2 : t * t ≤ u := Nat.le_of_dvd (by omega) hd
  have : t < 3 := by
    rcases Nat.lt_or_ge t 3 with c | c
    · exact c
    · have := Nat.mul_le_mul c c
      omega
  have : t = 2 := by omega
  subst this
  rcases hu with rfl | rfl | rfl <;> revert hd <;> decide⟩
theorem due_facts {u : Nat} {top low : Int} (hu : u = 2 ∨ u = 3 ∨ u = 6) (ht : 0 < top) (hl : 0 < low) :
    decide (sg2 (-lwN top low) (lwD top low) u < 0) = decide ((u : Int) * low * low < top * top) ∧ decide (sg2 (lwN top low) (-lwD top low) u < 0) = !decide ((u : Int) * low * low < top * top) ∧
      sg2 (-lwN top low) (lwD top low) u = 1 - 2 * (if decide ((u : Int) * low * low < top * top) = true then 1 else 0) := by
  have dp : 0 < lwD top low := lwD_pos (by omega)
  have e := lw_req (u := top) (show low ≠ 0 by omega)
  have np : 0 < lwN top low := by
    have := sgn_lw (u := top) hl
    rw [sgn_p ht] at this
    rcases sgn_c (lwN top low) with ⟨a, b⟩ | ⟨a, b⟩ | ⟨a, b⟩ <;> omega
  generalize lwN top low = n at *
  generalize lwD top low = d at *
  have T0 : top * top - low * low * u ≠ 0 := fun z => by
    have := free_sq (A := top) (B := low) (prt236 hu) (by omega) (by omega) (by omega)
    omega
  have S : sgn (n * n - d * d * u) = sgn (top * top - low * low * u) := by
    have ll := Int.mul_pos hl hl
    have dd := Int.mul_pos dp dp
    rw [← sgn_mulp ll, ← sgn_mulp (i := top * top - low * low * u) dd]
    congr 1
    have : (n * n - d * d * u) * (low * low) = (n * low) * (n * low) - d * d * u * (low * low) := by grind
    rw [this, e]
    grind
  have a1 : sg2 (-n) d u = -sgn (top * top - low * low * u) := by
    unfold sg2
    rw [sgn_n (show -n < 0 by omega), sgn_p dp, if_neg (by decide), if_neg (by decide), show -n * -n - d * d * (u : Int) = n * n - d * d * u by grind, S]
    omega
  have a2 : sg2 n (-d) u = sgn (top * top - low * low * u) := by
    unfold sg2
    rw [sgn_n (show -d < 0 by omega), sgn_p np, if_neg (by decide), if_neg (by decide), show n * n - -d * -d * (u : Int) = n * n - d * d * u by grind, S]
    omega
  rw [a1, a2]
  have ul : (u : Int) * low * low = low * low * u := by grind
  rw [ul]
  generalize top * top = x at *
  generalize low * low * (u : Int) = y at *
  rcases sgn_c (x - y) with ⟨a, b⟩ | ⟨a, b⟩ | ⟨a, b⟩
  · have : y < x := by omega
    rw [b]; simp [this]
  · have : ¬ y < x := by omega
    rw [b]; simp [this]
  · omega
def bT3 : PyData → En → En
  | .tuple [d1, d2, d3] => fun ρ => ((ρ.set 0 (some (.d d1))).set 1 (some (.d d2))).set 2 (some (.d d3))
  | _ => id
def bT2 : PyData → En → En
  | .tuple [d1, d2] => fun ρ => (ρ.set 6 (some (.d d1))).set 7 (some (.d d2))
  | _ => id
theorem len13 {α : Type} {ρ : List α} (h : ρ.length = 13) : ∃ x0 x1 x2 x3 x4 x5 x6 x7 x8 x9 x10 x11 x12, ρ = [x0, x1, x2, x3, x4, x5, x6, x7, x8, x9, x10, x11, x12] :=
  match ρ, h with
  | [x0, x1, x2, x3, x4, x5, x6, x7, x8, x9, x10, x11, x12], _ => ⟨x0, x1, x2, x3, x4, x5, x6, x7, x8, x9, x10, x11, x12, rfl⟩
abbrev t4 (a b c d : Int) : PyData := .tuple [.int a, .int b, .int c, .int d]
def row3 (u p q a b c d : Int) : PyData := .tuple [.int u, q2 p q, t4 a b c d]
def rows3 : List PyData := [row3 2 1 1 1 2 1 1, row3 3 2 1 2 3 1 2, row3 6 5 2 5 12 2 5]
/-- the parts next to a root stay within bounds -/
structure Nx (p q : Int) : Prop where
  p0 : 0 < p
  q0 : 0 < q
  pq : p ≤ 3 * q
  qm : q ≤ 11 * 10 ^ 34
structure Stp (a b c d : Int) : Prop where
  a0 : 0 ≤ a
  b0 : 0 ≤ b
  c0 : 0 ≤ c
  d0 : 0 ≤ d
  p1 : ∀ p q, 0 < p → 0 < q → p ≤ 3 * q → 0 < a * p + b * q ∧ 0 < c * p + d * q ∧ a * p + b * q ≤ 3 * (c * p + d * q) ∧ c * p + d * q ≤ 11 * q
  m : a ≤ 12 ∧ b ≤ 12 ∧ c ≤ 12 ∧ d ≤ 12
inductive R_next : Gr
  | mk {s} : R_next [] s (.d (.bool true)) s
section
local macro_rules | `(tactic| walk_at "sd") => `(tactic| first | rfl | assumption | exact Nat.le_of_ble_eq_true rfl | decide | omega | (walk_at "sd2"))
local macro_rules | `(tactic| walk_at "sd2") => `(tactic| first | exact cm_sm (by assumption) (by assumption) | exact cf_sm (by assumption) (by assumption) | ((with_reducible apply gs); (walk_at "sd")) | exact cm_fm7 | exact cm_if | exact cm_l (by omega) (by omega) | exact cm_r (by omega) (by omega) | exact cf_c (by omega) (by omega))
local macro_rules | `(tactic| walk_at "isi") => `(tactic| with_reducible first | exact kit_int | exact kit_bool | exact kit_tuple | exact kit_list | exact kit_str)
local macro_rules | `(tactic| walk_at "und") => `(tactic| with_reducible repeat (first | exact Und.nil | apply Und.cons))
local macro_rules | `(tactic| walk_at "op") => `(tactic| (first
  | with_reducible exact o_add | with_reducible exact o_minus | with_reducible exact o_lt | with_reducible exact o_gt | with_reducible exact o_le | with_reducible exact o_ge | with_reducible exact o_neg
  | with_reducible exact o_isN | with_reducible exact o_isntN | with_reducible exact o_isB | with_reducible exact o_isntB | with_reducible exact o_neS | with_reducible exact o_eqS
  | with_reducible exact o_abs | with_reducible exact o_intB | with_reducible exact o_min2 | with_reducible exact o_max2 | with_reducible exact o_lenL | with_reducible exact o_lenT | with_reducible exact o_lenC | with_reducible exact o_gcd
  | with_reducible apply o_ixT | with_reducible apply o_ixL | with_reducible apply o_ixM | with_reducible apply o_ixS | with_reducible apply o_lenM
  | with_reducible apply o_mul | with_reducible apply o_fdiv | with_reducible apply o_mod | with_reducible apply o_pow | with_reducible apply o_eq | with_reducible apply o_ne | with_reducible apply o_catT | with_reducible apply o_repr | with_reducible apply o_all) <;> walk_at "sd")
local macro_rules | `(tactic| walk_at "opn") => `(tactic| (first
  | with_reducible apply o_cat | with_reducible apply o_repI | with_reducible exact o_listT | with_reducible exact o_listL) <;> walk_at "sd")
local macro_rules | `(tactic| walk_at "ea") => `(tactic| first
  | with_reducible exact eva_nil
  | ((with_reducible apply eva_cons); (walk_at "ev"); (walk_at "ea")))
local macro_rules | `(tactic| walk_at "call") => `(tactic| fail)
local macro_rules | `(tactic| walk_at "evn") => `(tactic| first
  | ((with_reducible apply evn_lstU); (walk_at "ea"); (walk_at "und"); (walk_at "sd"))
  | ((with_reducible apply evn_op); (walk_at "ev"); (walk_at "ev"); (walk_at "opn"))
  | ((with_reducible apply evn_cb); (walk_at "ea"); (walk_at "opn"))
  | ((with_reducible apply evn_call); (walk_at "ea"); (walk_at "call")))
local macro_rules | `(tactic| walk_at "ev") => `(tactic| first
  | with_reducible exact ev_int | with_reducible exact ev_bl | with_reducible exact ev_non | with_reducible exact ev_str
  | ((with_reducible apply ev_var); rfl)
  | ((with_reducible apply ev_op); (walk_at "ev"); (walk_at "ev"); (walk_at "op"))
  | ((with_reducible apply ev_un); (walk_at "ev"); (walk_at "op"))
  | ((with_reducible apply ev_call); (walk_at "ea"); (walk_at "call"))
  | ((with_reducible apply ev_callD); (walk_at "ea"); (intro _ _; exact rxs_1); (walk_at "call"))
  | ((with_reducible apply ev_callK); (walk_at "ea"); rfl; (intro _ _ _ hh; first | exact rxs_swap2 hh | exact rxs_same1 hh); (walk_at "call"))
  | ((with_reducible apply ev_isi); (walk_at "ev"); (walk_at "isi"))
  | ((with_reducible apply ev_isi2); (walk_at "ev"); (walk_at "isi"); (walk_at "isi"))
  | ((with_reducible apply ev_cb); (walk_at "ea"); (walk_at "op"))
  | ((with_reducible apply ev_tupU); (walk_at "ea"); (walk_at "und"); (walk_at "sd"))
  | ((with_reducible apply ev_new); (walk_at "evn"))
  | ((with_reducible apply ev_slT); (walk_at "ev"); (walk_at "eo"); (walk_at "eo"))
  | ((with_reducible apply ev_andV); (walk_at "ev"); (intro _; walk_at "ev"); (intro _; rfl))
  | ((with_reducible apply ev_orV); (walk_at "ev"); (intro _; walk_at "ev"); (intro _; rfl))
  | ((with_reducible apply ev_notV); (walk_at "ev")))
local macro_rules | `(tactic| walk_at "eo") => `(tactic| first
  | with_reducible exact eo_none
  | ((with_reducible apply eo_some); (walk_at "ev")))
local macro_rules | `(tactic| walk_at "et") => `(tactic| first
  | ((with_reducible apply et_test); (walk_at "ev"))
  | ((with_reducible apply et_B); (walk_at "ev"))
  | ((with_reducible apply et_not); (walk_at "et"))
  | ((with_reducible apply et_and); (walk_at "et"); (intro _; walk_at "et"); (intro _; rfl))
  | ((with_reducible apply et_or); (walk_at "et"); (intro _; walk_at "et"); (intro _; rfl)))
local macro_rules | `(tactic| walk_at "w") => `(tactic| first
  | (with_reducible apply w_seq)
  | (with_reducible apply w_next)
  | ((with_reducible apply w_asg); (walk_at "ev"))
  | ((with_reducible apply w_ret); (walk_at "ev"))
  | ((with_reducible apply w_drop); (walk_at "ev"))
  | ((with_reducible apply w_par); (walk_at "ea"))
  | ((with_reducible apply w_tup2); (walk_at "ev"))
  | ((with_reducible apply w_tup3); (walk_at "ev"))
  | ((with_reducible apply w_setI); (walk_at "ev"); (walk_at "ev"); (walk_at "ev"); (walk_at "sd"); (walk_at "sd"))
  | ((with_reducible apply w_if); (walk_at "et")))

variable {P : Program} {w : World} {K : Pw.Fg} {mg : Str → Option Value} {base : Heap} {f : Addr} {fd : FuncData} {ζ : ZA}
theorem ok_next (Z : Zx K mg ζ) (c__law_frac : Cb P w K mg base "_law_frac" 1 [] (spF K R_frac)) (c__law_same : Cb P w K mg base "_law_same" 7 [] (spF K (R_same 7))) (c_is_less : Cb P w K mg base "is_less" 6 [] (spF K R_less)) (c_root_sign : Cb P w K mg base "root_sign" 5 [] (spF K R_rsign))
    (G : Fun K "_law_next_right" "_law_next_right" s__law_next_right f fd) : FnOk P w K mg base CX0 8 f fd [] (spF K R_next) := by
  refine G.ok sc__law_next_right (spF_len fun xs s x s' h => by cases h; rfl) (fun cdv A outer s H vs Q E hr ⟨M, xs, st, x, st', h, So, rx, q⟩ => ?_)
  cases h with
  | mk =>
  refine ⟨_, (pss_cons (ps_for PassesOwn.never rfl (pik_tup (K := K) (pe_tup (pa_cons (pe_tup (pa_cons (pe_int) (pa_cons (pe_tup (pa_cons (pe_int) (pa_cons (pe_int) pa_nil))) (pa_cons (pe_tup (pa_cons (pe_int) (pa_cons (pe_int) (pa_cons (pe_int) (pa_cons (pe_int) pa_nil))))) pa_nil)))) (pa_cons (pe_tup (pa_cons (pe_int) (pa_cons (pe_tup (pa_cons (pe_int) (pa_cons (pe_int) pa_nil))) (pa_cons (pe_tup (pa_cons (pe_int) (pa_cons (pe_int) (pa_cons (pe_int) (pa_cons (pe_int) pa_nil))))) pa_nil)))) (pa_cons (pe_tup (pa_cons (pe_int) (pa_cons (pe_tup (pa_cons (pe_int) (pa_cons (pe_int) pa_nil))) (pa_cons (pe_tup (pa_cons (pe_int) (pa_cons (pe_int) (pa_cons (pe_int) (pa_cons (pe_int) pa_nil))))) pa_nil)))) pa_nil))))) (pgk_tup (K := K) 3 (by rfl) (pgs_cons (pg_name (i := 0) sc__law_next_right.nd rfl (Or.inl rfl)) (pgs_cons (pg_name (i := 1) sc__law_next_right.nd rfl (Or.inl rfl)) (pgs_cons (pg_name (i := 2) sc__law_next_right.nd rfl (Or.inl rfl)) pgs_nil)))) (pss_cons (ps_asg (pv 1) (pgk_tup (K := K) 2 (by rfl) (pgs_cons (pg_name (i := 3) sc__law_next_right.nd rfl (Or.inl rfl)) (pgs_cons (pg_name (i := 4) sc__law_next_right.nd rfl (Or.inl rfl)) pgs_nil))))
      (pss_one (ps_for PassesOwn.never rfl (pi_range1 (by rfl) Z.z_range (pa_cons (pe_int) pa_nil)) (pg_name (i := 5) sc__law_next_right.nd rfl (Or.inl rfl)) (pss_cons (ps_for PassesOwn.never rfl (pik_tup (K := K) (pe_tup (pa_cons (pe_tup (pa_cons (pv 3) (pa_cons (pv 4) pa_nil))) (pa_cons (pe_tup (pa_cons (pe_op op_times (pv 0) (pv 4)) (pa_cons (pv 3) pa_nil))) pa_nil)))) (pgk_tup (K := K) 2 (by rfl) (pgs_cons (pg_name (i := 6) sc__law_next_right.nd rfl (Or.inl rfl)) (pgs_cons (pg_name (i := 7) sc__law_next_right.nd rfl (Or.inl rfl)) pgs_nil))) (pss_cons (ps_par (i := 8) (j := 9) (by rfl) sc__law_next_right.nd rfl rfl (by decide) rfl rfl (pa_cons (pe_cb c__law_frac (hr.mono (by decide)) (by rfl) (pa_cons (pv 6) (pa_cons (pv 7) pa_nil))) (pa_cons (pe_tup (pa_cons (pe_tup (pa_cons (pe_int) (pa_cons (pe_int) pa_nil))) (pa_cons (pe_tup (pa_cons (pe_int) (pa_cons (pe_int) pa_nil))) (pa_cons (pv 0) pa_nil)))) pa_nil)) (by rfl))
      (pss_cons (ps_set (i := 10) sc__law_next_right.nd rfl (.inl rfl) (pe_cmpR op_gtA (pe_op op_times (pv 6) (pv 6)) (pe_op op_times (pe_op op_times (pv 0) (pv 7)) (pv 7)) (nomark _)))
      (pss_cons (ps_set (i := 11) sc__law_next_right.nd rfl (.inl rfl) (pe_lst (pa_cons (pe_cb c_is_less (hr.mono (by decide)) (by rfl) (pa_cons (pv 9) (pa_cons (pe_tup (pa_cons (pv 8) (pa_cons (pe_tup (pa_cons (pe_int) (pa_cons (pe_int) pa_nil))) (pa_cons (pe_int) pa_nil)))) pa_nil))) (pa_cons (pe_cb c_is_less (hr.mono (by decide)) (by rfl) (pa_cons (pe_tup (pa_cons (pv 8) (pa_cons (pe_tup (pa_cons (pe_int) (pa_cons (pe_int) pa_nil))) (pa_cons (pe_int) pa_nil)))) (pa_cons (pv 9) pa_nil))) pa_nil))))
      (pss_cons (ps_expr (pe_bm PySem.F.plainAttrs_list PySem.F.slot_list_append PySem.F.type_list_append mt_append (pv 11) (pa_cons (pe_cb c_root_sign (hr.mono (by decide)) (by rfl) (pa_cons (pe_tup (pa_cons (pe_tup (pa_cons (pe_op op_minus (pe_int) (pe_ix (ixk (K := K)) (pv 8) (pe_int) (fun _ _ => rfl))) (pa_cons (pe_ix (ixk (K := K)) (pv 8) (pe_int) (fun _ _ => rfl)) pa_nil))) (pa_cons (pe_tup (pa_cons (pe_int) (pa_cons (pe_int) pa_nil))) (pa_cons (pv 0) pa_nil)))) pa_nil)) pa_nil)))
      (pss_one (ps_if (pt_not (pt_val (pe_cb c__law_same (hr.mono (by omega)) (by rfl) (pa_cons (pv 11) (pa_cons (pe_lst (pa_cons (pv 10) (pa_cons (pe_not (pv 10)) (pa_cons (pe_op op_minus (pe_int) (pe_op op_times (pe_int) (pe_callTy cb_int (by rfl) Z.z_int bt_int (pa_cons (pv 10) pa_nil)))) pa_nil)))) pa_nil))))) (pss_one (ps_ret (pe_bl))) pss_nil)))))))
      (pss_one (ps_if (pt_cmpR op_ltA (pv 4) (pe_op op_powA (pe_int) (pe_int)) (nomark _)) (pss_cons (ps_set (i := 12) sc__law_next_right.nd rfl (.inl rfl) (pe_op (opk_plus (K := K)) (pe_op op_times (pe_ix (ixk (K := K)) (pv 2) (pe_int) (fun _ _ => rfl)) (pv 3)) (pe_op op_times (pe_ix (ixk (K := K)) (pv 2) (pe_int) (fun _ _ => rfl)) (pv 4))))
      (pss_one (ps_par (i := 3) (j := 4) (by rfl) sc__law_next_right.nd rfl rfl (by decide) rfl rfl (pa_cons (pv 12) (pa_cons (pe_op (opk_plus (K := K)) (pe_op op_times (pe_ix (ixk (K := K)) (pv 2) (pe_int) (fun _ _ => rfl)) (pv 3)) (pe_op op_times (pe_ix (ixk (K := K)) (pv 2) (pe_int) (fun _ _ => rfl)) (pv 4))) pa_nil)) (by rfl)))) pss_nil)))))))
      (pss_one (ps_ret (pe_bl)))), ?_⟩
  refine w_run So rx ?_
  try simp only [nox_K, cx_K, List.map_cons, List.map_nil]
  have q' := okr_0 q So.len
  walk_at "w"
  refine w_forT (ds := rows3) (s1 := st) bT3 ?_ ?_ (fun i ρ s => s = st ∧ ρ.length = 13) ⟨rfl, rfl⟩ ?_ ?_
  · intro d hd
    simp only [rows3, List.mem_cons, List.not_mem_nil, or_false] at hd
    rcases hd with rfl | rfl | rfl
    · exact gb_tup3 gb_name gb_name gb_name
    · exact gb_tup3 gb_name gb_name gb_name
    · exact gb_tup3 gb_name gb_name gb_name
  · show Ev K _ _ _ (.d (.tuple [.tuple [.int 2, .tuple [.int 1, .int 1], .tuple [.int 1, .int 2, .int 1, .int 1]], .tuple [.int 3, .tuple [.int 2, .int 1], .tuple [.int 2, .int 3, .int 1, .int 2]], .tuple [.int 6, .tuple [.int 5, .int 2], .tuple [.int 5, .int 12, .int 2, .int 5]]])) _
    walk_at "ev"
  · rintro v i d ρ s2 N hdi ⟨rfl, hlen⟩ hN
    obtain ⟨u, p0, q0, a, b, c, dd, ed, hu, hnx, hst⟩ : ∃ (u : Nat) (p0 q0 a b c dd : Int), d = row3 u p0 q0 a b c dd ∧ (u = 2 ∨ u = 3 ∨ u = 6) ∧ Nx p0 q0 ∧ Stp a b c dd := by
      have hm := List.mem_of_getElem? hdi
      simp only [rows3, List.mem_cons, List.not_mem_nil, or_false] at hm
      rcases hm with rfl | rfl | rfl
      · exact ⟨2, _, _, _, _, _, _, rfl, .inl rfl, ⟨by decide, by decide, by decide, by decide⟩, ⟨by decide, by decide, by decide, by decide, fun p q h1 h2 h3 => by omega, by decide⟩⟩
      · exact ⟨3, _, _, _, _, _, _, rfl, .inr (.inl rfl), ⟨by decide, by decide, by decide, by decide⟩, ⟨by decide, by decide, by decide, by decide, fun p q h1 h2 h3 => by omega, by decide⟩⟩
      · exact ⟨6, _, _, _, _, _, _, rfl, .inr (.inr rfl), ⟨by decide, by decide, by decide, by decide⟩, ⟨by decide, by decide, by decide, by decide, fun p q h1 h2 h3 => by omega, by decide⟩⟩
    subst ed
    obtain ⟨x0, x1, x2, x3, x4, x5, x6, x7, x8, x9, x10, x11, x12, rfl⟩ := len13 hlen
    show W K M H _ _ [some (.d (.int (u : Int))), some (.d (q2 p0 q0)), some (.d (t4 a b c dd)), x3, x4, x5, x6, x7, x8, x9, x10, x11, x12] s2
    walk_at "w"
    walk_at "w"
    dsimp only [List.set]
    have hp34 : CPow 10 34 := ⟨by decide, by decide, by decide⟩
    refine w_forR (c := 90) (s1 := s2) (eva_cons ev_int eva_nil) (by decide) (fun i ρ s => s = s2 ∧ ∃ p qq y5 y6 y7 y8 y9 y10 y11 y12, ρ = [some (.d (.int (u : Int))), some (.d (q2 p0 q0)), some (.d (t4 a b c dd)), some (.d (.int p)), some (.d (.int qq)), y5, y6, y7, y8, y9, y10, y11, y12] ∧ Nx p qq)
      ⟨rfl, p0, q0, _, _, _, _, _, _, _, _, rfl, hnx⟩ ?_ ?_
    · rintro j ρ s3 N2 hj ⟨rfl, p, qq, y5, y6, y7, y8, y9, y10, y11, y12, rfl, hx⟩ hN2
      dsimp only [List.set]
      have u6 : (u : Int) ≤ 6 := by omega
      have u2 : 2 ≤ (u : Int) := by omega
      have cm0 : CM (u : Int) qq := cm_l (by omega) (by omega)
      have px := hx.p0
      have qx := hx.q0
      have pqx := hx.pq
      have qmx := hx.qm
      have big : (11 * 10 ^ 34 * 6 : Int).natAbs < 2 ^ 121 := by decide
      have uq1 : 0 < (u : Int) * qq := Int.mul_pos (by omega) qx
      have uq2 : (u : Int) * qq ≤ 6 * qq := Int.mul_le_mul_of_nonneg_right u6 (by omega)
      walk_at "w"
      refine w_forT (ds := [q2 p qq, q2 ((u : Int) * qq) p]) (s1 := s3) bT2 ?_ ?_ (fun i ρ s => s = s3 ∧ ∃ y6 y7 y8 y9 y10 y11 y12, ρ = [some (.d (.int (u : Int))), some (.d (q2 p0 q0)), some (.d (t4 a b c dd)), some (.d (.int p)), some (.d (.int qq)), some (.d (.int (j : Int))), y6, y7, y8, y9, y10, y11, y12])
        ⟨rfl, _, _, _, _, _, _, _, rfl⟩ ?_ ?_
      · intro d hd
        simp only [List.mem_cons, List.not_mem_nil, or_false] at hd
        rcases hd with rfl | rfl
        · exact gb_tup2 (b1 := fun ρ => ρ.set 6 (some (.d (.int p)))) (b2 := fun ρ => ρ.set 7 (some (.d (.int qq)))) gb_name gb_name
        · exact gb_tup2 (b1 := fun ρ => ρ.set 6 (some (.d (.int ((u : Int) * qq))))) (b2 := fun ρ => ρ.set 7 (some (.d (.int p)))) gb_name gb_name
      · walk_at "ev"
      · rintro v2 k d ρ s4 N3 hd3 ⟨rfl, y6, y7, y8, y9, y10, y11, y12, rfl⟩ hN3
        obtain ⟨top, low, ed, ht, hl, ht2, hl2⟩ : ∃ top low, d = q2 top low ∧ 0 < top ∧ 0 < low ∧ top ≤ 11 * 10 ^ 34 * 6 ∧ low ≤ 11 * 10 ^ 34 * 6 := by
          have hm := List.mem_of_getElem? hd3
          simp only [List.mem_cons, List.not_mem_nil, or_false] at hm
          rcases hm with rfl | rfl
          · exact ⟨_, _, rfl, px, qx, by omega, by omega⟩
          · exact ⟨_, _, rfl, uq1, px, by omega, by omega⟩
        subst ed
        show W K M H _ _ [some (.d (.int (u : Int))), some (.d (q2 p0 q0)), some (.d (t4 a b c dd)), some (.d (.int p)), some (.d (.int qq)), some (.d (.int (j : Int))), some (.d (.int top)), some (.d (.int low)), y8, y9, y10, y11, y12] s4
        have st1 : Sm 121 top := ⟨by omega⟩
        have st2 : Sm 121 low := ⟨by omega⟩
        have kl : low ≠ 0 := by omega
        have FR : R_frac [.d (.int top), .d (.int low)] s4 (.d (q2 (lwN top low) (lwD top low))) s4 := fr_mk st1 st2 kl
        obtain ⟨f1, f2, f3⟩ := due_facts hu ht hl
        have sn : Sm 121 (lwN top low) := st1.le (lwN_le kl)
        have sd : Sm 121 (lwD top low) := st2.le (lwD_le kl)
        have dp : 0 < lwD top low := lwD_pos kl
        have o1 : Sm 5 (1 : Int) := .of 1 (by decide)
        have o0 : Sm 5 (0 : Int) := .of 0 (by decide)
        have su : Sm 20 (u : Int) := .of 6 (by omega)
        have L1 : R_less [.d (t3 (q2 0 1) (q2 1 1) (.int (u : Int))), .d (t3 (q2 (lwN top low) (lwD top low)) (q2 0 1) (.int 1))] s4 (.d (.bool (decide ((u : Int) * low * low < top * top)))) s4 := by
          have := R_less.mk (s := s4) (n := 1) (m := 121) (a1 := 0) (a2 := 1) (b1 := 1) (b2 := 1) (d1 := 0) (d2 := 1) (u := (u : Int)) (v := 1) (by decide) (by decide : (0 : Int) < 1) (by decide : (0 : Int) < 1) dp (by decide : (0 : Int) < 1) (.of 0 (by decide)) (.of 1 (by decide)) o1 o1 su sn sd o0 o1 (.of 1 (by decide))
          rw [show (0 * lwD top low - lwN top low * 1) * (1 * 1) = -lwN top low by grind, show 1 * (1 * lwD top low * 1) = lwD top low by grind, show -0 * (1 * lwD top low * 1) = 0 by grind, sg3_c0, f1] at this
          exact this
        have L2 : R_less [.d (t3 (q2 (lwN top low) (lwD top low)) (q2 0 1) (.int 1)), .d (t3 (q2 0 1) (q2 1 1) (.int (u : Int)))] s4 (.d (.bool (!decide ((u : Int) * low * low < top * top)))) s4 := by
          have := R_less.mk (s := s4) (n := 121) (m := 1) (b1 := 0) (b2 := 1) (c1 := 0) (c2 := 1) (d1 := 1) (d2 := 1) (u := 1) (v := (u : Int)) (by decide) dp (by decide : (0 : Int) < 1) (by decide : (0 : Int) < 1) (by decide : (0 : Int) < 1) sn sd o0 o1 (.of 1 (by decide)) (.of 0 (by decide)) (.of 1 (by decide)) o1 o1 su
          rw [show (lwN top low * 1 - 0 * lwD top low) * (1 * 1) = lwN top low by grind, show 0 * (lwD top low * 1 * 1) = 0 by grind, show -1 * (lwD top low * 1 * 1) = -lwD top low by grind, sg3_b0, f2] at this
          exact this
        have RS : R_rsign [.d (t3 (q2 (0 - lwN top low) (lwD top low)) (q2 1 1) (.int (u : Int)))] (s4 ++ [[.bool (decide ((u : Int) * low * low < top * top)), .bool (!decide ((u : Int) * low * low < top * top))]])
            (.d (.int (1 - 2 * (if decide ((u : Int) * low * low < top * top) = true then 1 else 0)))) (s4 ++ [[.bool (decide ((u : Int) * low * low < top * top)), .bool (!decide ((u : Int) * low * low < top * top))]]) := by
          have := R_rsign.mk (s := s4 ++ [[.bool (decide ((u : Int) * low * low < top * top)), .bool (!decide ((u : Int) * low * low < top * top))]]) (a1 := 0 - lwN top low) (b1 := 1) (b2 := 1) (u := (u : Int)) dp (by decide) (by rw [show 0 - lwN top low = -lwN top low by omega]; exact sn.neg.mono) sd.mono (.of 1 (by decide)) (.of 1 (by decide)) su
          rw [show (0 - lwN top low) * 1 = -lwN top low by omega, show 1 * lwD top low = lwD top low by omega, f3] at this
          exact this
        have c1 : CM top top := cm_sm st1 st1
        have c2 : CM (u : Int) low := cm_sm su st2
        have c3 : CM ((u : Int) * low) low := cm_sm (su.mul st2) st2
        have c4 : ∀ z : Int, CM 2 z := fun z => cm_l (by decide) (by decide)
        have c5 := c4 (if decide ((u : Int) * low * low < top * top) = true then 1 else 0)
        walk_at "w"
        refine w_par (x := .d (q2 (lwN top low) (lwD top low))) (y := .d (t3 (q2 0 1) (q2 1 1) (.int (u : Int)))) (s1 := s4) ?_ ?_
        · refine eva_cons (ev_call ?_ FR) ?_
          · walk_at "ea"
          · walk_at "ea"
        dsimp only [List.set]
        iterate 2 (walk_at "w")
        dsimp only [List.set]
        walk_at "w"
        refine w_asgN (s1 := s4) (ds := [.bool (decide ((u : Int) * low * low < top * top)), .bool (!decide ((u : Int) * low * low < top * top))]) ?_ ?_
        · refine evn_lstU (xs := [.d (.bool (decide ((u : Int) * low * low < top * top))), .d (.bool (!decide ((u : Int) * low * low < top * top)))]) ?_ (.cons (.cons .nil)) (Nat.le_of_ble_eq_true rfl)
          refine eva_cons (ev_call ?_ L1) (eva_cons (ev_call ?_ L2) eva_nil)
          · walk_at "ea"
          · walk_at "ea"
        dsimp only [List.set]
        walk_at "w"
        refine w_app (l := s4.length) (s1 := s4 ++ [[.bool (decide ((u : Int) * low * low < top * top)), .bool (!decide ((u : Int) * low * low < top * top))]]) (ds := [.bool (decide ((u : Int) * low * low < top * top)), .bool (!decide ((u : Int) * low * low < top * top))]) (d := .int (1 - 2 * (if decide ((u : Int) * low * low < top * top) = true then 1 else 0))) (ev_var rfl) ?_ (by simp) (by show 2 < 1000000; decide) ?_ ⟨_, by simp; rfl⟩
        · refine eva_cons (ev_call ?_ RS) eva_nil
          walk_at "ea"
        refine w_at (s' := s4 ++ [[.bool (decide ((u : Int) * low * low < top * top)), .bool (!decide ((u : Int) * low * low < top * top)), .int (1 - 2 * (if decide ((u : Int) * low * low < top * top) = true then 1 else 0))]]) ?_ rfl (by simp)
        refine w_wk (ρ' := [some (.d (.int (u : Int))), some (.d (q2 p0 q0)), some (.d (t4 a b c dd)), some (.d (.int p)), some (.d (.int qq)), some (.d (.int (j : Int))), none, none, none, none, some (.d (.bool (decide ((u : Int) * low * low < top * top)))), some (.loc s4.length), none]) (.same (.same (.same (.same (.same (.same (.none (.none (.none (.none (.same (.same (.none .nil))))))))))))) ?_
        refine w_freeze (n := 11) rfl ?_ (by rw [So.len]; exact Nat.le_refl _) trivial
        dsimp only [List.set]
        have RM : R_same 7 [.d (.list [.bool (decide ((u : Int) * low * low < top * top)), .bool (!decide ((u : Int) * low * low < top * top)), .int (1 - 2 * (if decide ((u : Int) * low * low < top * top) = true then 1 else 0))]), .d (.list [.bool (decide ((u : Int) * low * low < top * top)), .bool (!decide ((u : Int) * low * low < top * top)), .int (1 - 2 * (if decide ((u : Int) * low * low < top * top) = true then 1 else 0))])] s4 (.d (.bool true)) s4 := .mk rfl (Nat.le_of_ble_eq_true rfl) (Nat.le_of_ble_eq_true rfl) (by decide)
        refine w_if (b := false) (s1 := s4) (et_not (b := true) (et_test (ev_call ?_ RM))) ?_ ?_
        · walk_at "ea"
        · intro z; cases z
        · intro _
          try dsimp only
          walk_at "w"
          exact hN3 _ _ ⟨rfl, _, _, _, _, _, _, _, rfl⟩
      · rintro ρ s4 ⟨rfl, y6, y7, y8, y9, y10, y11, y12, rfl⟩
        have spq := hst.p1 p qq px qx pqx
        have mm := hst.m
        have m1 : CM a p := cm_l (by have := hst.a0; omega) (by omega)
        have m2 : CM b qq := cm_l (by have := hst.b0; omega) (by omega)
        have m3 : CM c p := cm_l (by have := hst.c0; omega) (by omega)
        have m4 : CM dd qq := cm_l (by have := hst.d0; omega) (by omega)
        dsimp only
        walk_at "w"
        · intro cq
          have cq := of_decide_eq_true cq
          have cq : qq < 10 ^ 34 := cq
          iterate 3 (walk_at "w")
          exact hN2 _ _ ⟨rfl, _, _, _, _, _, _, _, _, _, _, rfl, ⟨spq.1, spq.2.1, spq.2.2.1, by omega⟩⟩
        · intro _
          walk_at "w"
          exact hN2 _ _ ⟨rfl, _, _, _, _, _, _, _, _, _, _, rfl, hx⟩
    · rintro ρ s3 ⟨rfl, p, qq, y5, y6, y7, y8, y9, y10, y11, y12, rfl, hx⟩
      exact hN _ _ ⟨rfl, rfl⟩
  · rintro ρ s2 ⟨rfl, hlen⟩
    walk_at "w"
    exact q'
end
end K04
namespace K04
open PySem L2 Pw Km
theorem rt0 : Rt 0 1 0 1 1 := rt_z (.of 0 (by decide)) (.of 1 (by decide)) (by decide) (by decide)
/-- what's due of a sign -/
theorem sgn_due {a1 a2 b1 b2 : Int} {u : Nat} (h : Rt a1 a2 b1 b2 u) :
    (if decide (sg3 ((0 * a2 - a1 * 1) * (1 * b2)) (0 * (1 * a2 * b2)) 1 (-b1 * (1 * a2 * 1)) u < 0) = true then (1 : Int) else 0) - (if decide (sg3 ((a1 * 1 - 0 * a2) * (b2 * 1)) (b1 * (a2 * 1 * 1)) u (-0 * (a2 * 1 * b2)) 1 < 0) = true then 1 else 0) = sg2 (a1 * b2) (b1 * a2) u := by
  rw [show (0 * a2 - a1 * 1) * (1 * b2) = -(a1 * b2) by grind, show 0 * (1 * a2 * b2) = 0 by grind, show -b1 * (1 * a2 * 1) = -(b1 * a2) by grind, sg3_b0, sg2_neg,
    show (a1 * 1 - 0 * a2) * (b2 * 1) = a1 * b2 by grind, show b1 * (a2 * 1 * 1) = b1 * a2 by grind, show -0 * (a2 * 1 * b2) = 0 by grind, sg3_c0]
  rcases sg2_r (a1 * b2) (b1 * a2) u with k | k | k <;> rw [k] <;> decide
theorem Lq.trans {a b c : En} (h : Lq a b) (h2 : Lq b c) : Lq a c := by
  induction h generalizing c with
  | nil => cases h2; exact .nil
  | same h ih =>
    cases h2 with
    | same h2 => exact .same (ih h2)
    | none h2 => exact .none (ih h2)
  | none h ih =>
    cases h2 with
    | same h2 => exact .none (ih h2)
    | none h2 => exact .none (ih h2)
abbrev rc (ns : List Int) (k : Nat) : En := [some (.scr ns), some (.d (.int (k : Int))), none, none, none, none, none, none]
section
local macro_rules | `(tactic| walk_at "sd") => `(tactic| first | rfl | assumption | exact Nat.le_of_ble_eq_true rfl | decide | omega | (walk_at "sd2"))
local macro_rules | `(tactic| walk_at "sd2") => `(tactic| first | exact cm_sm (by assumption) (by assumption) | exact cf_sm (by assumption) (by assumption) | ((with_reducible apply gs); (walk_at "sd")) | exact cm_fm7 | exact cm_if | exact cm_l (by omega) (by omega) | exact cm_r (by omega) (by omega) | exact cf_c (by omega) (by omega))
local macro_rules | `(tactic| walk_at "isi") => `(tactic| with_reducible first | exact kit_int | exact kit_bool | exact kit_tuple | exact kit_list | exact kit_str)
local macro_rules | `(tactic| walk_at "und") => `(tactic| with_reducible repeat (first | exact Und.nil | apply Und.cons))
local macro_rules | `(tactic| walk_at "op") => `(tactic| (first
  | with_reducible exact o_add | with_reducible exact o_minus | with_reducible exact o_lt | with_reducible exact o_gt | with_reducible exact o_le | with_reducible exact o_ge | with_reducible exact o_neg
  | with_reducible exact o_isN | with_reducible exact o_isntN | with_reducible exact o_isB | with_reducible exact o_isntB | with_reducible exact o_neS | with_reducible exact o_eqS
  | with_reducible exact o_abs | with_reducible exact o_intB | with_reducible exact o_min2 | with_reducible exact o_max2 | with_reducible exact o_lenL | with_reducible exact o_lenT | with_reducible exact o_lenC | with_reducible exact o_gcd
  | with_reducible apply o_ixT | with_reducible apply o_ixL | with_reducible apply o_ixM | with_reducible apply o_ixS | with_reducible apply o_lenM
  | with_reducible apply o_mul | with_reducible apply o_fdiv | with_reducible apply o_mod | with_reducible apply o_pow | with_reducible apply o_eq | with_reducible apply o_ne | with_reducible apply o_catT | with_reducible apply o_repr | with_reducible apply o_all) <;> walk_at "sd")
local macro_rules | `(tactic| walk_at "opn") => `(tactic| (first
  | with_reducible apply o_cat | with_reducible apply o_repI | with_reducible exact o_listT | with_reducible exact o_listL) <;> walk_at "sd")
local macro_rules | `(tactic| walk_at "ea") => `(tactic| first
  | with_reducible exact eva_nil
  | ((with_reducible apply eva_cons); (walk_at "ev"); (walk_at "ea")))
local macro_rules | `(tactic| walk_at "call") => `(tactic| fail)
local macro_rules | `(tactic| walk_at "evn") => `(tactic| first
  | ((with_reducible apply evn_lstU); (walk_at "ea"); (walk_at "und"); (walk_at "sd"))
  | ((with_reducible apply evn_op); (walk_at "ev"); (walk_at "ev"); (walk_at "opn"))
  | ((with_reducible apply evn_cb); (walk_at "ea"); (walk_at "opn"))
  | ((with_reducible apply evn_call); (walk_at "ea"); (walk_at "call")))
local macro_rules | `(tactic| walk_at "ev") => `(tactic| first
  | with_reducible exact ev_int | with_reducible exact ev_bl | with_reducible exact ev_non | with_reducible exact ev_str
  | ((with_reducible apply ev_var); rfl)
  | ((with_reducible apply ev_op); (walk_at "ev"); (walk_at "ev"); (walk_at "op"))
  | ((with_reducible apply ev_un); (walk_at "ev"); (walk_at "op"))
  | ((with_reducible apply ev_call); (walk_at "ea"); (walk_at "call"))
  | ((with_reducible apply ev_callD); (walk_at "ea"); (intro _ _; exact rxs_1); (walk_at "call"))
  | ((with_reducible apply ev_callK); (walk_at "ea"); rfl; (intro _ _ _ hh; first | exact rxs_swap2 hh | exact rxs_same1 hh); (walk_at "call"))
  | ((with_reducible apply ev_isi); (walk_at "ev"); (walk_at "isi"))
  | ((with_reducible apply ev_isi2); (walk_at "ev"); (walk_at "isi"); (walk_at "isi"))
  | ((with_reducible apply ev_cb); (walk_at "ea"); (walk_at "op"))
  | ((with_reducible apply ev_tupU); (walk_at "ea"); (walk_at "und"); (walk_at "sd"))
  | ((with_reducible apply ev_new); (walk_at "evn"))
  | ((with_reducible apply ev_slT); (walk_at "ev"); (walk_at "eo"); (walk_at "eo"))
  | ((with_reducible apply ev_andV); (walk_at "ev"); (intro _; walk_at "ev"); (intro _; rfl))
  | ((with_reducible apply ev_orV); (walk_at "ev"); (intro _; walk_at "ev"); (intro _; rfl))
  | ((with_reducible apply ev_notV); (walk_at "ev")))
local macro_rules | `(tactic| walk_at "eo") => `(tactic| first
  | with_reducible exact eo_none
  | ((with_reducible apply eo_some); (walk_at "ev")))
local macro_rules | `(tactic| walk_at "et") => `(tactic| first
  | ((with_reducible apply et_test); (walk_at "ev"))
  | ((with_reducible apply et_B); (walk_at "ev"))
  | ((with_reducible apply et_not); (walk_at "et"))
  | ((with_reducible apply et_and); (walk_at "et"); (intro _; walk_at "et"); (intro _; rfl))
  | ((with_reducible apply et_or); (walk_at "et"); (intro _; walk_at "et"); (intro _; rfl)))
local macro_rules | `(tactic| walk_at "w") => `(tactic| first
  | (with_reducible apply w_seq)
  | (with_reducible apply w_next)
  | ((with_reducible apply w_asg); (walk_at "ev"))
  | ((with_reducible apply w_ret); (walk_at "ev"))
  | ((with_reducible apply w_drop); (walk_at "ev"))
  | ((with_reducible apply w_par); (walk_at "ea"))
  | ((with_reducible apply w_tup2); (walk_at "ev"))
  | ((with_reducible apply w_tup3); (walk_at "ev"))
  | ((with_reducible apply w_setI); (walk_at "ev"); (walk_at "ev"); (walk_at "ev"); (walk_at "sd"); (walk_at "sd"))
  | ((with_reducible apply w_if); (walk_at "et")))

local macro_rules | `(tactic| walk_at "call") => `(tactic| assumption)
variable {P : Program} {w : World} {K : Pw.Fg} {mg : Str → Option Value} {base : Heap} {f : Addr} {fd : FuncData} {ζ : ZA} {cdv : Value} {s : Shared} {H : Hp} {a : Addr} {ns : List Int}
theorem w_law (Z : Zx K mg ζ) (hl : ns.length ≤ 63) (hr : Room 9 (PySem.callerA.deeper (PyProof.Rows.envOfC "law" (defScope s_law) s.heap.objs.size f cdv)))
    (k__law_next_right : Ck P w K mg base "_law_next_right" 8 [] same1 (spF K R_next)) (c__law_box : Cb P w K mg base "_law_box" 2 [] (spN K R_box)) (c__law_some : Cb P w K mg base "_law_some" 4 [] (spP K R_some)) (c__law_below : Cb P w K mg base "_law_below" 3 [] (spF K R_below)) (c__law_same : Cb P w K mg base "_law_same" 7 [] (spF K (R_same 7)))
    (c_root_sign : Cb P w K mg base "root_sign" 5 [] (spF K R_rsign)) (k_root_sign : Ck P w K mg base "root_sign" 5 ["root"] same1 (spF K R_rsign)) (c_is_less : Cb P w K mg base "is_less" 6 [] (spF K R_less)) (k_is_less : Ck P w K mg base "is_less" 6 ["other", "one"] swap2 (spF K R_less))
    (hS : SqL K H a (ns.map V.int)) :
    ∃ t, PSs (cxOf CX0 P w K mg base N_law "law" (defScope s_law) f cdv PySem.callerA [] s H E0).nox (defBody s_law) t ∧ t { nx := fun _ _ => False, rt := fun v _ => v = .bl true } (L2.start N_law [.ref a]) H := by
  refine ⟨_, (pss_cons (ps_if (pt_not (pt_val (pe_ck k__law_next_right (hr.mono (by decide)) (by rfl) pk_nil))) (pss_one (ps_ret (pe_bl))) pss_nil)
      (pss_cons (ps_for PassesOwn.never rfl (pi_range1 (by rfl) Z.z_range (pa_cons (pe_op (opk_plus (K := K)) (pe_int) (pe_callB (cb_min2 rfl) (by rfl) Z.z_min bt_min (pa_cons (pe_int) (pa_cons (pe_callB (cbk_len (K := K)) (by rfl) Z.z_len bt_len (pa_cons (pv 0) pa_nil)) pa_nil)))) pa_nil)) (pg_name (i := 1) sc_law.nd rfl (Or.inl rfl)) (pss_cons (ps_set (i := 2) sc_law.nd rfl (.inl rfl) (pe_cb c__law_box (hr.mono (by decide)) (by rfl) (pa_cons (pv 0) (pa_cons (pv 1) pa_nil))))
      (pss_cons (ps_set (i := 3) sc_law.nd rfl (.inl rfl) (pe_cb c__law_some (hr.mono (by decide)) (by rfl) (pa_cons (pv 2) pa_nil)))
      (pss_one (ps_for PassesOwn.never rfl (pik_list (K := K) (pv 3)) (pg_name (i := 4) sc_law.nd rfl (Or.inl rfl)) (pss_cons (ps_set (i := 5) sc_law.nd rfl (.inl rfl) (pe_op op_minus (pe_callTy cb_int (by rfl) Z.z_int bt_int (pa_cons (pe_cb c__law_below (hr.mono (by decide)) (by rfl) (pa_cons (pe_tup (pa_cons (pe_tup (pa_cons (pe_int) (pa_cons (pe_int) pa_nil))) (pa_cons (pe_tup (pa_cons (pe_int) (pa_cons (pe_int) pa_nil))) (pa_cons (pe_int) pa_nil)))) (pa_cons (pv 4) pa_nil))) pa_nil)) (pe_callTy cb_int (by rfl) Z.z_int bt_int (pa_cons (pe_cb c__law_below (hr.mono (by decide)) (by rfl) (pa_cons (pv 4) (pa_cons (pe_tup (pa_cons (pe_tup (pa_cons (pe_int) (pa_cons (pe_int) pa_nil))) (pa_cons (pe_tup (pa_cons (pe_int) (pa_cons (pe_int) pa_nil))) (pa_cons (pe_int) pa_nil)))) pa_nil))) pa_nil))))
      (pss_cons (ps_if (pt_not (pt_val (pe_cb c__law_same (hr.mono (by omega)) (by rfl) (pa_cons (pe_lst (pa_cons (pe_cb c_root_sign (hr.mono (by decide)) (by rfl) (pa_cons (pv 4) pa_nil)) (pa_cons (pe_ck k_root_sign (hr.mono (by decide)) (by rfl) (pk_cons (pv 4) pk_nil)) pa_nil))) (pa_cons (pe_lst (pa_cons (pv 5) (pa_cons (pv 5) pa_nil))) pa_nil))))) (pss_one (ps_ret (pe_bl))) pss_nil)
      (pss_one (ps_for PassesOwn.never rfl (pik_list (K := K) (pv 3)) (pg_name (i := 6) sc_law.nd rfl (Or.inl rfl)) (pss_cons (ps_set (i := 5) sc_law.nd rfl (.inl rfl) (pe_cb c__law_below (hr.mono (by decide)) (by rfl) (pa_cons (pv 4) (pa_cons (pv 6) pa_nil))))
      (pss_one (ps_if (pt_not (pt_val (pe_cb c__law_same (hr.mono (by omega)) (by rfl) (pa_cons (pe_lst (pa_cons (pe_cb c_is_less (hr.mono (by decide)) (by rfl) (pa_cons (pv 4) (pa_cons (pv 6) pa_nil))) (pa_cons (pe_ck k_is_less (hr.mono (by decide)) (by rfl) (pk_cons (pv 6) (pk_cons (pv 4) pk_nil))) pa_nil))) (pa_cons (pe_lst (pa_cons (pv 5) (pa_cons (pv 5) pa_nil))) pa_nil))))) (pss_one (ps_ret (pe_bl))) pss_nil))))))))))))
      (pss_cons (ps_set (i := 7) sc_law.nd rfl (.inl rfl) (pe_lst (pa_cons (pe_cb c_is_less (hr.mono (by decide)) (by rfl) (pa_cons (pe_tup (pa_cons (pe_tup (pa_cons (pe_int) (pa_cons (pe_int) pa_nil))) (pa_cons (pe_tup (pa_cons (pe_int) (pa_cons (pe_int) pa_nil))) (pa_cons (pe_int) pa_nil)))) (pa_cons (pe_tup (pa_cons (pe_tup (pa_cons (pe_int) (pa_cons (pe_int) pa_nil))) (pa_cons (pe_tup (pa_cons (pe_int) (pa_cons (pe_int) pa_nil))) (pa_cons (pe_int) pa_nil)))) pa_nil))) (pa_cons (pe_cb c_is_less (hr.mono (by decide)) (by rfl) (pa_cons (pe_tup (pa_cons (pe_tup (pa_cons (pe_int) (pa_cons (pe_int) pa_nil))) (pa_cons (pe_tup (pa_cons (pe_int) (pa_cons (pe_int) pa_nil))) (pa_cons (pe_int) pa_nil)))) (pa_cons (pe_tup (pa_cons (pe_tup (pa_cons (pe_int) (pa_cons (pe_int) pa_nil))) (pa_cons (pe_tup (pa_cons (pe_int) (pa_cons (pe_int) pa_nil))) (pa_cons (pe_int) pa_nil)))) pa_nil))) pa_nil))))
      (pss_cons (ps_set (i := 7) sc_law.nd rfl (.inl rfl) (pe_op (opk_plus (K := K)) (pv 7) (pe_lst (pa_cons (pe_cb c_is_less (hr.mono (by decide)) (by rfl) (pa_cons (pe_tup (pa_cons (pe_tup (pa_cons (pe_int) (pa_cons (pe_int) pa_nil))) (pa_cons (pe_tup (pa_cons (pe_int) (pa_cons (pe_int) pa_nil))) (pa_cons (pe_int) pa_nil)))) (pa_cons (pe_tup (pa_cons (pe_tup (pa_cons (pe_int) (pa_cons (pe_int) pa_nil))) (pa_cons (pe_tup (pa_cons (pe_int) (pa_cons (pe_int) pa_nil))) (pa_cons (pe_int) pa_nil)))) pa_nil))) (pa_cons (pe_cb c_root_sign (hr.mono (by decide)) (by rfl) (pa_cons (pe_tup (pa_cons (pe_tup (pa_cons (pe_un un_negA (pe_int)) (pa_cons (pe_int) pa_nil))) (pa_cons (pe_tup (pa_cons (pe_int) (pa_cons (pe_int) pa_nil))) (pa_cons (pe_int) pa_nil)))) pa_nil)) pa_nil)))))
      (pss_one (ps_ret (pe_cb c__law_same (hr.mono (by omega)) (by rfl) (pa_cons (pv 7) (pa_cons (pe_lst (pa_cons (pe_bl) (pa_cons (pe_bl) (pa_cons (pe_bl) (pa_cons (pe_int) pa_nil))))) pa_nil))))))))), ?_⟩
  refine w_run so_nil (rxs_scr hS) ?_
  try simp only [nox_K, cx_K, List.map_cons, List.map_nil]
  have NX : R_next [] [] (.d (.bool true)) [] := .mk
  refine w_if (b := false) (s1 := []) (et_not (b := true) (et_test ?_)) ?_ ?_
  · with_reducible apply ev_callK
    · exact eva_nil
    · rfl
    · intro _ _ _ hh; exact rxs_same1 hh
    · exact NX
  · intro c; cases c
  intro _
  iterate 2 (walk_at "w")
  dsimp only
  refine w_forR (c := 1 + min 4 ns.length) (s1 := []) (ρ := rho0 N_law [.scr ns]) ?_ (by omega) (fun _ ρ s => s = [] ∧ ρ = rho0 N_law [.scr ns]) ⟨rfl, rfl⟩ ?_ ?_
  · with_reducible apply eva_cons
    · refine Ev.is (by walk_at "ev") ?_
      refine congrArg (fun i => Dx.d (.int i)) ?_
      show 1 + (if (ns.length : Int) < 4 then (ns.length : Int) else 4) = ((1 + min 4 ns.length : Nat) : Int)
      split <;> omega
    · exact eva_nil
  · rintro k ρ s2 N hk ⟨rfl, rfl⟩ hN
    walk_at "w"
    refine w_asgN (s1 := []) (ds := bxl (mkB (cell ns k) k)) ?_ ?_
    · with_reducible apply evn_call
      · walk_at "ea"
      · exact .mk (by omega)
    have hB : Bk 0 (mkB (cell ns k) k) := bk_mk
    generalize mkB (cell ns k) k = b0 at *
    dsimp only
    walk_at "w"
    refine w_asgP (xs := [.loc 0]) (s1 := [bxl b0]) ?_ (some_ex (l := 0) rfl hB (by decide)) ?_
    · exact eva_cons (ev_var rfl) eva_nil
    rintro x s2 hx
    cases hx with
    | @mk _ b b' c _ ds hl0 hc hc2 hd hz hb =>
    refine w_cut (s := []) (ρ' := [some (.scr ns), some (.d (.int (k : Int))), none, some (.d (.list ds)), none, none, none, none]) ?_ (Nat.zero_le _) trivial rfl ?_
    rotate_left
    · intro i x e
      refine Lq.at_ (l := [some (.scr ns), some (.d (.int (k : Int))), none, some (.d (.list ds)), none, none, none, none]) ?_ i x e
      exact .same (.same (.none (.same (.none (.none (.none (.none .nil)))))))
    dsimp only
    refine w_forL (ds := ds) (s1 := []) (ev_var rfl) (fun i ρ s => s = [] ∧ Lq [some (.scr ns), some (.d (.int (k : Int))), none, some (.d (.list ds)), none, none, none, none] ρ) ⟨rfl, Lq.refl _⟩ ?_ ?_
    · rintro v i d ρ s2 N2 hdi ⟨rfl, hq⟩ hN2
      obtain ⟨a1, a2, b1, b2, u, rfl, R⟩ := hd d (List.mem_of_getElem? hdi)
      refine w_wk (hq.set 4 (some (.d (t3 (q2 a1 a2) (q2 b1 b2) (.int (u : Int)))))) ?_
      dsimp only [List.set]
      have B1 : R_below [.d (t3 (q2 0 1) (q2 0 1) (.int 1)), .d (t3 (q2 a1 a2) (q2 b1 b2) (.int (u : Int)))] [] _ [] := .mk (u := 1) rt0 R
      have B2 : R_below [.d (t3 (q2 a1 a2) (q2 b1 b2) (.int (u : Int))), .d (t3 (q2 0 1) (q2 0 1) (.int 1))] [] _ [] := .mk (v := 1) R rt0
      have SG : R_rsign [.d (t3 (q2 a1 a2) (q2 b1 b2) (.int (u : Int)))] [] (.d (.int (sg2 (a1 * b2) (b1 * a2) u))) [] := .mk R.pa R.pb R.sa.mono R.sa2.mono R.sb.mono R.sb2.mono (smn 1000000 R.um)
      have RM : ∀ z : Int, R_same 7 [.d (.list [.int z, .int z]), .d (.list [.int z, .int z])] [] (.d (.bool true)) [] := fun z => .mk rfl (Nat.le_of_ble_eq_true rfl) (Nat.le_of_ble_eq_true rfl) (by decide)
      have RM2 : ∀ z : Bool, R_same 7 [.d (.list [.bool z, .bool z]), .d (.list [.bool z, .bool z])] [] (.d (.bool true)) [] := fun z => .mk rfl (Nat.le_of_ble_eq_true rfl) (Nat.le_of_ble_eq_true rfl) (by decide)
      walk_at "w"
      refine w_asg (x := .d (.int (sg2 (a1 * b2) (b1 * a2) u))) (s1 := []) ?_ ?_
      · refine Ev.is ?_ (congrArg (fun i => Dx.d (.int i)) (sgn_due R))
        with_reducible apply ev_op
        · with_reducible apply ev_cb
          · refine eva_cons (ev_call ?_ B1) eva_nil
            walk_at "ea"
          · exact o_intB
        · with_reducible apply ev_cb
          · refine eva_cons (ev_call ?_ B2) eva_nil
            walk_at "ea"
          · exact o_intB
        · exact o_minus
      dsimp only [List.set]
      walk_at "w"
      refine w_if (b := false) (s1 := []) (et_not (b := true) (et_test (ev_call (xs := [.d (.list [.int (sg2 (a1 * b2) (b1 * a2) u), .int (sg2 (a1 * b2) (b1 * a2) u)]), .d (.list [.int (sg2 (a1 * b2) (b1 * a2) u), .int (sg2 (a1 * b2) (b1 * a2) u)])]) ?_ (RM _)))) ?_ ?_
      · walk_at "ea"
      · intro c; cases c
      intro _
      try dsimp only
      walk_at "w"
      refine w_forL (ds := ds) (s1 := []) (ev_var rfl) (fun i ρ s => s = [] ∧ Lq [some (.scr ns), some (.d (.int (k : Int))), none, some (.d (.list ds)), some (.d (t3 (q2 a1 a2) (q2 b1 b2) (.int (u : Int)))), none, none, none] ρ) ⟨rfl, .same (.same (.same (.same (.same (.none (.none (.none .nil)))))))⟩ ?_ ?_
      · rintro v2 i2 d2 ρ s2 N3 hdi2 ⟨rfl, hq2⟩ hN3
        obtain ⟨c1, c2, d1, d2, u2, rfl, R2⟩ := hd d2 (List.mem_of_getElem? hdi2)
        refine w_wk (hq2.set 6 (some (.d (t3 (q2 c1 c2) (q2 d1 d2) (.int (u2 : Int)))))) ?_
        dsimp only [List.set]
        have B3 : R_below [.d (t3 (q2 a1 a2) (q2 b1 b2) (.int (u : Int))), .d (t3 (q2 c1 c2) (q2 d1 d2) (.int (u2 : Int)))] [] _ [] := .mk R R2
        have L3 : R_less [.d (t3 (q2 a1 a2) (q2 b1 b2) (.int (u : Int))), .d (t3 (q2 c1 c2) (q2 d1 d2) (.int (u2 : Int)))] [] _ [] := .mk (n := 11) (m := 11) (by decide) R.pa R.pb R2.pa R2.pb R.sa R.sa2.mono R.sb R.sb2 (smn 1000000 R.um) R2.sa R2.sa2.mono R2.sb R2.sb2 (smn 1000000 R2.um)
        generalize decide (sg3 ((a1 * c2 - c1 * a2) * (b2 * d2)) (b1 * (a2 * c2 * d2)) u (-d1 * (a2 * c2 * b2)) u2 < 0) = bb at B3 L3
        walk_at "w"
        refine w_asg (x := .d (.bool bb)) (s1 := []) (ev_call ?_ B3) ?_
        · walk_at "ea"
        dsimp only [List.set]
        refine w_if (b := false) (s1 := []) (et_not (b := true) (et_test (ev_call (xs := [.d (.list [.bool bb, .bool bb]), .d (.list [.bool bb, .bool bb])]) ?_ (RM2 _)))) ?_ ?_
        · walk_at "ea"
        · intro c; cases c
        intro _
        try dsimp only
        walk_at "w"
        exact hN3 _ _ ⟨rfl, .same (.same (.same (.same (.same (.none (.none (.none .nil)))))))⟩
      · rintro ρ s2 ⟨rfl, hq2⟩
        exact hN2 _ _ ⟨rfl, Lq.trans (.same (.same (.same (.same (.none (.none (.none (.none .nil)))))))) hq2⟩
    · rintro ρ s2 ⟨rfl, hq⟩
      exact w_wk (ρ' := rho0 N_law [.scr ns]) (Lq.trans (.same (.none (.none (.none (.none (.none (.none (.none .nil)))))))) hq) (hN _ _ ⟨rfl, rfl⟩)
  · rintro ρ s2 ⟨rfl, rfl⟩
    have q1 : Sm 1 (1 : Int) := .of 1 (by decide)
    have K1 : R_less [.d (t3 (q2 0 1) (q2 1 1) (.int 2)), .d (t3 (q2 3 2) (q2 0 1) (.int 1))] [] (.d (.bool true)) [] := by
      have := R_less.mk (s := []) (n := 11) (m := 11) (a1 := 0) (a2 := 1) (b1 := 1) (b2 := 1) (u := 2) (c1 := 3) (c2 := 2) (d1 := 0) (d2 := 1) (v := 1) (by decide) (by decide) (by decide) (by decide) (by decide) (.of 9 (by decide)) (.of 9 (by decide)) (.of 9 (by decide)) (.of 9 (by decide)) (.of 9 (by decide)) (.of 9 (by decide)) (.of 9 (by decide)) (.of 9 (by decide)) (.of 9 (by decide)) (.of 9 (by decide))
      rw [show decide (sg3 ((0 * 2 - 3 * 1) * (1 * 1)) (1 * (1 * 2 * 1)) 2 (-0 * (1 * 2 * 1)) 1 < 0) = true from by decide +kernel] at this
      exact this
    have K2 : R_less [.d (t3 (q2 0 1) (q2 1 1) (.int 3)), .d (t3 (q2 3 2) (q2 0 1) (.int 1))] [] (.d (.bool false)) [] := by
      have := R_less.mk (s := []) (n := 11) (m := 11) (a1 := 0) (a2 := 1) (b1 := 1) (b2 := 1) (u := 3) (c1 := 3) (c2 := 2) (d1 := 0) (d2 := 1) (v := 1) (by decide) (by decide) (by decide) (by decide) (by decide) (.of 9 (by decide)) (.of 9 (by decide)) (.of 9 (by decide)) (.of 9 (by decide)) (.of 9 (by decide)) (.of 9 (by decide)) (.of 9 (by decide)) (.of 9 (by decide)) (.of 9 (by decide)) (.of 9 (by decide))
      rw [show decide (sg3 ((0 * 2 - 3 * 1) * (1 * 1)) (1 * (1 * 2 * 1)) 3 (-0 * (1 * 2 * 1)) 1 < 0) = false from by decide +kernel] at this
      exact this
    have K3 : R_less [.d (t3 (q2 1 1) (q2 1 1) (.int 6)), .d (t3 (q2 0 1) (q2 2 1) (.int 3))] [] (.d (.bool true)) [] := by
      have := R_less.mk (s := []) (n := 11) (m := 11) (a1 := 1) (a2 := 1) (b1 := 1) (b2 := 1) (u := 6) (c1 := 0) (c2 := 1) (d1 := 2) (d2 := 1) (v := 3) (by decide) (by decide) (by decide) (by decide) (by decide) (.of 9 (by decide)) (.of 9 (by decide)) (.of 9 (by decide)) (.of 9 (by decide)) (.of 9 (by decide)) (.of 9 (by decide)) (.of 9 (by decide)) (.of 9 (by decide)) (.of 9 (by decide)) (.of 9 (by decide))
      rw [show decide (sg3 ((1 * 1 - 0 * 1) * (1 * 1)) (1 * (1 * 1 * 1)) 6 (-2 * (1 * 1 * 1)) 3 < 0) = true from by decide +kernel] at this
      exact this
    have K4 : R_rsign [.d (t3 (q2 (-7) 5) (q2 1 1) (.int 2))] [] (.d (.int 1)) [] := by
      have := R_rsign.mk (s := []) (a1 := -7) (a2 := 5) (b1 := 1) (b2 := 1) (u := 2) (by decide) (by decide) (.of 9 (by decide)) (.of 9 (by decide)) (.of 9 (by decide)) (.of 9 (by decide)) (.of 9 (by decide))
      rw [show sg2 (-7 * 1) (1 * 5) 2 = 1 from by decide +kernel] at this
      exact this
    have RM : R_same 7 [.d (.list [.bool true, .bool false, .bool true, .int 1]), .d (.list [.bool true, .bool false, .bool true, .int 1])] [] (.d (.bool true)) [] := .mk rfl (Nat.le_of_ble_eq_true rfl) (Nat.le_of_ble_eq_true rfl) (by decide)
    dsimp only
    walk_at "w"
    refine w_asg (x := .d (.list [.bool true, .bool false])) (s1 := []) (ev_new (evn_lstU (xs := [.d (.bool true), .d (.bool false)]) ?_ (.cons (.cons .nil)) (by decide))) ?_
    · refine eva_cons (ev_call ?_ K1) (eva_cons (ev_call ?_ K2) eva_nil)
      · walk_at "ea"
      · walk_at "ea"
    dsimp only
    walk_at "w"
    refine w_asg (x := .d (.list [.bool true, .bool false, .bool true, .int 1])) (s1 := []) (ev_new (evn_op (ds := [.bool true, .bool false, .bool true, .int 1]) (ev_var rfl) (ev_new (evn_lstU (xs := [.d (.bool true), .d (.int 1)]) ?_ (.cons (.cons .nil)) (by decide))) (o_cat (ds := [.bool true, .bool false]) (es := [.bool true, .int 1]) (by decide)))) ?_
    · refine eva_cons (ev_call ?_ K3) (eva_cons (ev_call ?_ K4) eva_nil)
      · walk_at "ea"
      · walk_at "ea"
    try dsimp only
    refine w_ret (x := .d (.bool true)) (s1 := []) (ev_call (xs := [.d (.list [.bool true, .bool false, .bool true, .int 1]), .d (.list [.bool true, .bool false, .bool true, .int 1])]) ?_ RM) okr_true
    walk_at "ea"
end
end K04
namespace K04
open PySem L2 Pw
abbrev PL : PySem.W.OpenLaw := PySem.Challenge.rw_pegwishes_k04_signs_and_which_is_less
theorem all_mk {w : World} {K : PySem.W.Frag} {h : Heap} {mg : Str → Option Value} {fa : Addr} (X : K.In h) (G : h.Ns mainGlobals mg) (hfa : mg "law" = some (.ref fa))
    {f_frac : Addr} {od_frac an_frac : Option Addr} {sl_frac : Array (Option Value)} {oc_frac kV_frac dc_frac pm_frac cd_frac ct_frac : Value}
    {T_frac : Addr} {oT_frac : Value} {dT_frac : Option Addr} {nT_frac : Nat} {slT_frac : Array (Option Value)} {tk_frac : Tok}
    {f_plus : Addr} {od_plus an_plus : Option Addr} {sl_plus : Array (Option Value)} {oc_plus kV_plus dc_plus pm_plus cd_plus ct_plus : Value}
    {f_minus : Addr} {od_minus an_minus : Option Addr} {sl_minus : Array (Option Value)} {oc_minus kV_minus dc_minus pm_minus cd_minus ct_minus : Value}
    {f_times : Addr} {od_times an_times : Option Addr} {sl_times : Array (Option Value)} {oc_times kV_times dc_times pm_times cd_times ct_times : Value}
    {f_sign_of : Addr} {od_sign_of an_sign_of : Option Addr} {sl_sign_of : Array (Option Value)} {oc_sign_of kV_sign_of dc_sign_of pm_sign_of cd_sign_of ct_sign_of : Value}
    {f__parted : Addr} {od__parted an__parted : Option Addr} {sl__parted : Array (Option Value)} {oc__parted kV__parted dc__parted pm__parted cd__parted ct__parted : Value}
    {f_rooted : Addr} {od_rooted an_rooted : Option Addr} {sl_rooted : Array (Option Value)} {oc_rooted kV_rooted dc_rooted pm_rooted cd_rooted ct_rooted : Value}
    {f_root_sign : Addr} {od_root_sign an_root_sign : Option Addr} {sl_root_sign : Array (Option Value)} {oc_root_sign kV_root_sign dc_root_sign pm_root_sign cd_root_sign ct_root_sign : Value}
    {f__sign : Addr} {od__sign an__sign : Option Addr} {sl__sign : Array (Option Value)} {oc__sign kV__sign dc__sign pm__sign cd__sign ct__sign : Value}
    {f__square : Addr} {od__square an__square : Option Addr} {sl__square : Array (Option Value)} {oc__square kV__square dc__square pm__square cd__square ct__square : Value}
    {f_is_less : Addr} {od_is_less an_is_less : Option Addr} {sl_is_less : Array (Option Value)} {oc_is_less kV_is_less dc_is_less pm_is_less cd_is_less ct_is_less : Value}
    {f__sign_of_three : Addr} {od__sign_of_three an__sign_of_three : Option Addr} {sl__sign_of_three : Array (Option Value)} {oc__sign_of_three kV__sign_of_three dc__sign_of_three pm__sign_of_three cd__sign_of_three ct__sign_of_three : Value}
    {f__law_cell_at : Addr} {od__law_cell_at an__law_cell_at : Option Addr} {sl__law_cell_at : Array (Option Value)} {oc__law_cell_at kV__law_cell_at dc__law_cell_at pm__law_cell_at cd__law_cell_at ct__law_cell_at : Value}
    {f__law_box : Addr} {od__law_box an__law_box : Option Addr} {sl__law_box : Array (Option Value)} {oc__law_box kV__law_box dc__law_box pm__law_box cd__law_box ct__law_box : Value}
    {f__law_take : Addr} {od__law_take an__law_take : Option Addr} {sl__law_take : Array (Option Value)} {oc__law_take kV__law_take dc__law_take pm__law_take cd__law_take ct__law_take : Value}
    {f__law_same : Addr} {od__law_same an__law_same : Option Addr} {sl__law_same : Array (Option Value)} {oc__law_same kV__law_same dc__law_same pm__law_same cd__law_same ct__law_same : Value}
    {f__law_of : Addr} {od__law_of an__law_of : Option Addr} {sl__law_of : Array (Option Value)} {oc__law_of kV__law_of dc__law_of pm__law_of cd__law_of ct__law_of : Value}
    {f__law_frac : Addr} {od__law_frac an__law_frac : Option Addr} {sl__law_frac : Array (Option Value)} {oc__law_frac kV__law_frac dc__law_frac pm__law_frac cd__law_frac ct__law_frac : Value}
    {f__law_draw : Addr} {od__law_draw an__law_draw : Option Addr} {sl__law_draw : Array (Option Value)} {oc__law_draw kV__law_draw dc__law_draw pm__law_draw cd__law_draw ct__law_draw : Value}
    {f__law_side : Addr} {od__law_side an__law_side : Option Addr} {sl__law_side : Array (Option Value)} {oc__law_side kV__law_side dc__law_side pm__law_side cd__law_side ct__law_side : Value}
    {f__law_wide : Addr} {od__law_wide an__law_wide : Option Addr} {sl__law_wide : Array (Option Value)} {oc__law_wide kV__law_wide dc__law_wide pm__law_wide cd__law_wide ct__law_wide : Value}
    {f__law_below : Addr} {od__law_below an__law_below : Option Addr} {sl__law_below : Array (Option Value)} {oc__law_below kV__law_below dc__law_below pm__law_below cd__law_below ct__law_below : Value}
    {f__law_some : Addr} {od__law_some an__law_some : Option Addr} {sl__law_some : Array (Option Value)} {oc__law_some kV__law_some dc__law_some pm__law_some cd__law_some ct__law_some : Value}
    {f__law_next_right : Addr} {od__law_next_right an__law_next_right : Option Addr} {sl__law_next_right : Array (Option Value)} {oc__law_next_right kV__law_next_right dc__law_next_right pm__law_next_right cd__law_next_right ct__law_next_right : Value}
    {f_law : Addr} {od_law an_law : Option Addr} {sl_law : Array (Option Value)} {oc_law kV_law dc_law pm_law cd_law ct_law : Value}
    {TN : Addr} {tR : Tok} {dTN : Option Addr} {t0 t1 : Tok} {nTN : Nat} {slTN : Array (Option Value)}
    (a_frac : PySem.W.nsIn K mainGlobals "frac" = some (some (.ref f_frac)))
    (l_frac : K.lookup f_frac = some ⟨oc_frac, od_frac, .func (PySem.W.fnOf "frac" "frac" (defArgs s_frac) (defBody s_frac) (defScope s_frac) (.ref T_frac) kV_frac dc_frac pm_frac an_frac cd_frac ct_frac), sl_frac⟩)
    (c_frac : PySem.W.codeIn K cd_frac "frac" = true)
    (k_frac : PySem.W.keepIn K (.ref f_frac) = true)
    (t_frac : K.lookup T_frac = some ⟨oT_frac, dT_frac, .seq #[.int 1 tk_frac] nT_frac, slT_frac⟩)
    (a_plus : PySem.W.nsIn K mainGlobals "plus" = some (some (.ref f_plus)))
    (l_plus : K.lookup f_plus = some ⟨oc_plus, od_plus, .func (PySem.W.fnOf "plus" "plus" (defArgs s_plus) (defBody s_plus) (defScope s_plus) .none kV_plus dc_plus pm_plus an_plus cd_plus ct_plus), sl_plus⟩)
    (c_plus : PySem.W.codeIn K cd_plus "plus" = true)
    (k_plus : PySem.W.keepIn K (.ref f_plus) = true)
    (a_minus : PySem.W.nsIn K mainGlobals "minus" = some (some (.ref f_minus)))
    (l_minus : K.lookup f_minus = some ⟨oc_minus, od_minus, .func (PySem.W.fnOf "minus" "minus" (defArgs s_minus) (defBody s_minus) (defScope s_minus) .none kV_minus dc_minus pm_minus an_minus cd_minus ct_minus), sl_minus⟩)
    (c_minus : PySem.W.codeIn K cd_minus "minus" = true)
    (k_minus : PySem.W.keepIn K (.ref f_minus) = true)
    (a_times : PySem.W.nsIn K mainGlobals "times" = some (some (.ref f_times)))
    (l_times : K.lookup f_times = some ⟨oc_times, od_times, .func (PySem.W.fnOf "times" "times" (defArgs s_times) (defBody s_times) (defScope s_times) .none kV_times dc_times pm_times an_times cd_times ct_times), sl_times⟩)
    (c_times : PySem.W.codeIn K cd_times "times" = true)
    (k_times : PySem.W.keepIn K (.ref f_times) = true)
    (a_sign_of : PySem.W.nsIn K mainGlobals "sign_of" = some (some (.ref f_sign_of)))
    (l_sign_of : K.lookup f_sign_of = some ⟨oc_sign_of, od_sign_of, .func (PySem.W.fnOf "sign_of" "sign_of" (defArgs s_sign_of) (defBody s_sign_of) (defScope s_sign_of) .none kV_sign_of dc_sign_of pm_sign_of an_sign_of cd_sign_of ct_sign_of), sl_sign_of⟩)
    (c_sign_of : PySem.W.codeIn K cd_sign_of "sign_of" = true)
    (k_sign_of : PySem.W.keepIn K (.ref f_sign_of) = true)
    (a__parted : PySem.W.nsIn K mainGlobals "_parted" = some (some (.ref f__parted)))
    (l__parted : K.lookup f__parted = some ⟨oc__parted, od__parted, .func (PySem.W.fnOf "_parted" "_parted" (defArgs s__parted) (defBody s__parted) (defScope s__parted) .none kV__parted dc__parted pm__parted an__parted cd__parted ct__parted), sl__parted⟩)
    (c__parted : PySem.W.codeIn K cd__parted "_parted" = true)
    (k__parted : PySem.W.keepIn K (.ref f__parted) = true)
    (a_rooted : PySem.W.nsIn K mainGlobals "rooted" = some (some (.ref f_rooted)))
    (l_rooted : K.lookup f_rooted = some ⟨oc_rooted, od_rooted, .func (PySem.W.fnOf "rooted" "rooted" (defArgs s_rooted) (defBody s_rooted) (defScope s_rooted) .none kV_rooted dc_rooted pm_rooted an_rooted cd_rooted ct_rooted), sl_rooted⟩)
    (c_rooted : PySem.W.codeIn K cd_rooted "rooted" = true)
    (k_rooted : PySem.W.keepIn K (.ref f_rooted) = true)
    (a_root_sign : PySem.W.nsIn K mainGlobals "root_sign" = some (some (.ref f_root_sign)))
    (l_root_sign : K.lookup f_root_sign = some ⟨oc_root_sign, od_root_sign, .func (PySem.W.fnOf "root_sign" "root_sign" (defArgs s_root_sign) (defBody s_root_sign) (defScope s_root_sign) .none kV_root_sign dc_root_sign pm_root_sign an_root_sign cd_root_sign ct_root_sign), sl_root_sign⟩)
    (c_root_sign : PySem.W.codeIn K cd_root_sign "root_sign" = true)
    (k_root_sign : PySem.W.keepIn K (.ref f_root_sign) = true)
    (a__sign : PySem.W.nsIn K mainGlobals "_sign" = some (some (.ref f__sign)))
    (l__sign : K.lookup f__sign = some ⟨oc__sign, od__sign, .func (PySem.W.fnOf "_sign" "_sign" (defArgs s__sign) (defBody s__sign) (defScope s__sign) .none kV__sign dc__sign pm__sign an__sign cd__sign ct__sign), sl__sign⟩)
    (c__sign : PySem.W.codeIn K cd__sign "_sign" = true)
    (k__sign : PySem.W.keepIn K (.ref f__sign) = true)
    (a__square : PySem.W.nsIn K mainGlobals "_square" = some (some (.ref f__square)))
    (l__square : K.lookup f__square = some ⟨oc__square, od__square, .func (PySem.W.fnOf "_square" "_square" (defArgs s__square) (defBody s__square) (defScope s__square) .none kV__square dc__square pm__square an__square cd__square ct__square), sl__square⟩)
    (c__square : PySem.W.codeIn K cd__square "_square" = true)
    (k__square : PySem.W.keepIn K (.ref f__square) = true)
    (a_is_less : PySem.W.nsIn K mainGlobals "is_less" = some (some (.ref f_is_less)))
    (l_is_less : K.lookup f_is_less = some ⟨oc_is_less, od_is_less, .func (PySem.W.fnOf "is_less" "is_less" (defArgs s_is_less) (defBody s_is_less) (defScope s_is_less) .none kV_is_less dc_is_less pm_is_less an_is_less cd_is_less ct_is_less), sl_is_less⟩)
    (c_is_less : PySem.W.codeIn K cd_is_less "is_less" = true)
    (k_is_less : PySem.W.keepIn K (.ref f_is_less) = true)
    (a__sign_of_three : PySem.W.nsIn K mainGlobals "_sign_of_three" = some (some (.ref f__sign_of_three)))
    (l__sign_of_three : K.lookup f__sign_of_three = some ⟨oc__sign_of_three, od__sign_of_three, .func (PySem.W.fnOf "_sign_of_three" "_sign_of_three" (defArgs s__sign_of_three) (defBody s__sign_of_three) (defScope s__sign_of_three) .none kV__sign_of_three dc__sign_of_three pm__sign_of_three an__sign_of_three cd__sign_of_three ct__sign_of_three), sl__sign_of_three⟩)
    (c__sign_of_three : PySem.W.codeIn K cd__sign_of_three "_sign_of_three" = true)
    (k__sign_of_three : PySem.W.keepIn K (.ref f__sign_of_three) = true)
    (a__law_cell_at : PySem.W.nsIn K mainGlobals "_law_cell_at" = some (some (.ref f__law_cell_at)))
    (l__law_cell_at : K.lookup f__law_cell_at = some ⟨oc__law_cell_at, od__law_cell_at, .func (PySem.W.fnOf "_law_cell_at" "_law_cell_at" (defArgs s__law_cell_at) (defBody s__law_cell_at) (defScope s__law_cell_at) .none kV__law_cell_at dc__law_cell_at pm__law_cell_at an__law_cell_at cd__law_cell_at ct__law_cell_at), sl__law_cell_at⟩)
    (c__law_cell_at : PySem.W.codeIn K cd__law_cell_at "_law_cell_at" = true)
    (k__law_cell_at : PySem.W.keepIn K (.ref f__law_cell_at) = true)
    (a__law_box : PySem.W.nsIn K mainGlobals "_law_box" = some (some (.ref f__law_box)))
    (l__law_box : K.lookup f__law_box = some ⟨oc__law_box, od__law_box, .func (PySem.W.fnOf "_law_box" "_law_box" (defArgs s__law_box) (defBody s__law_box) (defScope s__law_box) .none kV__law_box dc__law_box pm__law_box an__law_box cd__law_box ct__law_box), sl__law_box⟩)
    (c__law_box : PySem.W.codeIn K cd__law_box "_law_box" = true)
    (k__law_box : PySem.W.keepIn K (.ref f__law_box) = true)
    (a__law_take : PySem.W.nsIn K mainGlobals "_law_take" = some (some (.ref f__law_take)))
    (l__law_take : K.lookup f__law_take = some ⟨oc__law_take, od__law_take, .func (PySem.W.fnOf "_law_take" "_law_take" (defArgs s__law_take) (defBody s__law_take) (defScope s__law_take) .none kV__law_take dc__law_take pm__law_take an__law_take cd__law_take ct__law_take), sl__law_take⟩)
    (c__law_take : PySem.W.codeIn K cd__law_take "_law_take" = true)
    (k__law_take : PySem.W.keepIn K (.ref f__law_take) = true)
    (a__law_same : PySem.W.nsIn K mainGlobals "_law_same" = some (some (.ref f__law_same)))
    (l__law_same : K.lookup f__law_same = some ⟨oc__law_same, od__law_same, .func (PySem.W.fnOf "_law_same" "_law_same" (defArgs s__law_same) (defBody s__law_same) (defScope s__law_same) .none kV__law_same dc__law_same pm__law_same an__law_same cd__law_same ct__law_same), sl__law_same⟩)
    (c__law_same : PySem.W.codeIn K cd__law_same "_law_same" = true)
    (k__law_same : PySem.W.keepIn K (.ref f__law_same) = true)
    (a__law_of : PySem.W.nsIn K mainGlobals "_law_of" = some (some (.ref f__law_of)))
    (l__law_of : K.lookup f__law_of = some ⟨oc__law_of, od__law_of, .func (PySem.W.fnOf "_law_of" "_law_of" (defArgs s__law_of) (defBody s__law_of) (defScope s__law_of) .none kV__law_of dc__law_of pm__law_of an__law_of cd__law_of ct__law_of), sl__law_of⟩)
    (c__law_of : PySem.W.codeIn K cd__law_of "_law_of" = true)
    (k__law_of : PySem.W.keepIn K (.ref f__law_of) = true)
    (a__law_frac : PySem.W.nsIn K mainGlobals "_law_frac" = some (some (.ref f__law_frac)))
    (l__law_frac : K.lookup f__law_frac = some ⟨oc__law_frac, od__law_frac, .func (PySem.W.fnOf "_law_frac" "_law_frac" (defArgs s__law_frac) (defBody s__law_frac) (defScope s__law_frac) .none kV__law_frac dc__law_frac pm__law_frac an__law_frac cd__law_frac ct__law_frac), sl__law_frac⟩)
    (c__law_frac : PySem.W.codeIn K cd__law_frac "_law_frac" = true)
    (k__law_frac : PySem.W.keepIn K (.ref f__law_frac) = true)
    (a__law_draw : PySem.W.nsIn K mainGlobals "_law_draw" = some (some (.ref f__law_draw)))
    (l__law_draw : K.lookup f__law_draw = some ⟨oc__law_draw, od__law_draw, .func (PySem.W.fnOf "_law_draw" "_law_draw" (defArgs s__law_draw) (defBody s__law_draw) (defScope s__law_draw) .none kV__law_draw dc__law_draw pm__law_draw an__law_draw cd__law_draw ct__law_draw), sl__law_draw⟩)
    (c__law_draw : PySem.W.codeIn K cd__law_draw "_law_draw" = true)
    (k__law_draw : PySem.W.keepIn K (.ref f__law_draw) = true)
    (a__law_side : PySem.W.nsIn K mainGlobals "_law_side" = some (some (.ref f__law_side)))
    (l__law_side : K.lookup f__law_side = some ⟨oc__law_side, od__law_side, .func (PySem.W.fnOf "_law_side" "_law_side" (defArgs s__law_side) (defBody s__law_side) (defScope s__law_side) .none kV__law_side dc__law_side pm__law_side an__law_side cd__law_side ct__law_side), sl__law_side⟩)
    (c__law_side : PySem.W.codeIn K cd__law_side "_law_side" = true)
    (k__law_side : PySem.W.keepIn K (.ref f__law_side) = true)
    (a__law_wide : PySem.W.nsIn K mainGlobals "_law_wide" = some (some (.ref f__law_wide)))
    (l__law_wide : K.lookup f__law_wide = some ⟨oc__law_wide, od__law_wide, .func (PySem.W.fnOf "_law_wide" "_law_wide" (defArgs s__law_wide) (defBody s__law_wide) (defScope s__law_wide) .none kV__law_wide dc__law_wide pm__law_wide an__law_wide cd__law_wide ct__law_wide), sl__law_wide⟩)
    (c__law_wide : PySem.W.codeIn K cd__law_wide "_law_wide" = true)
    (k__law_wide : PySem.W.keepIn K (.ref f__law_wide) = true)
    (a__law_below : PySem.W.nsIn K mainGlobals "_law_below" = some (some (.ref f__law_below)))
    (l__law_below : K.lookup f__law_below = some ⟨oc__law_below, od__law_below, .func (PySem.W.fnOf "_law_below" "_law_below" (defArgs s__law_below) (defBody s__law_below) (defScope s__law_below) .none kV__law_below dc__law_below pm__law_below an__law_below cd__law_below ct__law_below), sl__law_below⟩)
    (c__law_below : PySem.W.codeIn K cd__law_below "_law_below" = true)
    (k__law_below : PySem.W.keepIn K (.ref f__law_below) = true)
    (a__law_some : PySem.W.nsIn K mainGlobals "_law_some" = some (some (.ref f__law_some)))
    (l__law_some : K.lookup f__law_some = some ⟨oc__law_some, od__law_some, .func (PySem.W.fnOf "_law_some" "_law_some" (defArgs s__law_some) (defBody s__law_some) (defScope s__law_some) .none kV__law_some dc__law_some pm__law_some an__law_some cd__law_some ct__law_some), sl__law_some⟩)
    (c__law_some : PySem.W.codeIn K cd__law_some "_law_some" = true)
    (k__law_some : PySem.W.keepIn K (.ref f__law_some) = true)
    (a__law_next_right : PySem.W.nsIn K mainGlobals "_law_next_right" = some (some (.ref f__law_next_right)))
    (l__law_next_right : K.lookup f__law_next_right = some ⟨oc__law_next_right, od__law_next_right, .func (PySem.W.fnOf "_law_next_right" "_law_next_right" (defArgs s__law_next_right) (defBody s__law_next_right) (defScope s__law_next_right) .none kV__law_next_right dc__law_next_right pm__law_next_right an__law_next_right cd__law_next_right ct__law_next_right), sl__law_next_right⟩)
    (c__law_next_right : PySem.W.codeIn K cd__law_next_right "_law_next_right" = true)
    (k__law_next_right : PySem.W.keepIn K (.ref f__law_next_right) = true)
    (a_law : PySem.W.nsIn K mainGlobals "law" = some (some (.ref f_law)))
    (l_law : K.lookup f_law = some ⟨oc_law, od_law, .func (PySem.W.fnOf "law" "law" (defArgs s_law) (defBody s_law) (defScope s_law) .none kV_law dc_law pm_law an_law cd_law ct_law), sl_law⟩)
    (c_law : PySem.W.codeIn K cd_law "law" = true)
    (k_law : PySem.W.keepIn K (.ref f_law) = true)
    (z_abs : PySem.W.nsIn K mainGlobals "abs" = some none)
    (z_all : PySem.W.nsIn K mainGlobals "all" = some none)
    (z_bool : PySem.W.nsIn K mainGlobals "bool" = some none)
    (z_int : PySem.W.nsIn K mainGlobals "int" = some none)
    (z_isinstance : PySem.W.nsIn K mainGlobals "isinstance" = some none)
    (z_len : PySem.W.nsIn K mainGlobals "len" = some none)
    (z_list : PySem.W.nsIn K mainGlobals "list" = some none)
    (z_min : PySem.W.nsIn K mainGlobals "min" = some none)
    (z_range : PySem.W.nsIn K mainGlobals "range" = some none)
    (z_str : PySem.W.nsIn K mainGlobals "str" = some none)
    (z_tuple : PySem.W.nsIn K mainGlobals "tuple" = some none)
    (z_zip : PySem.W.nsIn K mainGlobals "zip" = some none)
    (z_gcd : PySem.W.nsIn K mainGlobals "gcd" = some (some (.builtin "math.gcd")))
    (g_N : PySem.W.nsIn K mainGlobals "NOUGHT" = some (some (.ref TN)))
    (l_N : K.lookup TN = some ⟨.type "tuple", dTN, .seq #[.int 0 t0, .int 1 t1] nTN, slTN⟩)
    (g_R : PySem.W.nsIn K mainGlobals "ROOTS" = some (some (.int 1000000 tR))) :
    ∃ fd : FuncData, Fun K "law" "law" s_law fa fd ∧ (∀ (s : Shared) (u : Value), BindsTo s fd ⟨[u], []⟩ [("_law_script", u)]) ∧
      ∀ (base : Heap) (cdv : Value) (s : Shared) (H : Hp) (a : Addr) (ns : List Int), ns.length ≤ 63 → K.In base → base.Ns mainGlobals mg → Room 9 (PySem.callerA.deeper (PyProof.Rows.envOfC "law" (defScope s_law) s.heap.objs.size fa cdv)) → SqL K H a (ns.map V.int) →
        ∃ t, PSs (cxOf CX0 PL.prog w K mg base N_law "law" (defScope s_law) fa cdv PySem.callerA [] s H E0).nox (defBody s_law) t ∧ t { nx := fun _ _ => False, rt := fun v _ => v = .bl true } (L2.start N_law [.ref a]) H := by
  cases hfa.symm.trans (PySem.W.mg_of X G a_law)
  have Z : Zx K mg ⟨TN, tR⟩ := {
    z_abs := PySem.W.mg_none_of X G z_abs
    z_all := PySem.W.mg_none_of X G z_all
    z_bool := PySem.W.mg_none_of X G z_bool
    z_int := PySem.W.mg_none_of X G z_int
    z_isinstance := PySem.W.mg_none_of X G z_isinstance
    z_len := PySem.W.mg_none_of X G z_len
    z_list := PySem.W.mg_none_of X G z_list
    z_min := PySem.W.mg_none_of X G z_min
    z_range := PySem.W.mg_none_of X G z_range
    z_str := PySem.W.mg_none_of X G z_str
    z_tuple := PySem.W.mg_none_of X G z_tuple
    z_zip := PySem.W.mg_none_of X G z_zip
    z_gcd := PySem.W.mg_of X G z_gcd
    g_NOUGHT := PySem.W.mg_of X G g_N
    n_NOUGHT := fun H => .tup (xs := [.int 0, .int 1]) (.inr ⟨_, _, _, l_N, rfl, rfl, by show 2 ≤ sizeLine; rw [sizeLine_eq]; decide, .cons ⟨_, rfl⟩ (.cons ⟨_, rfl⟩ .nil)⟩) (.cons (.int _) (.cons (.int _) .nil))
    g_ROOTS := PySem.W.mg_of X G g_R
  }
  have F_plus := fun_mk (st := s_plus) l_plus c_plus k_plus
  have F_minus := fun_mk (st := s_minus) l_minus c_minus k_minus
  have F_times := fun_mk (st := s_times) l_times c_times k_times
  have F_sign_of := fun_mk (st := s_sign_of) l_sign_of c_sign_of k_sign_of
  have F__parted := fun_mk (st := s__parted) l__parted c__parted k__parted
  have F_rooted := fun_mk (st := s_rooted) l_rooted c_rooted k_rooted
  have F_root_sign := fun_mk (st := s_root_sign) l_root_sign c_root_sign k_root_sign
  have F__sign := fun_mk (st := s__sign) l__sign c__sign k__sign
  have F__square := fun_mk (st := s__square) l__square c__square k__square
  have F_is_less := fun_mk (st := s_is_less) l_is_less c_is_less k_is_less
  have F__sign_of_three := fun_mk (st := s__sign_of_three) l__sign_of_three c__sign_of_three k__sign_of_three
  have F__law_cell_at := fun_mk (st := s__law_cell_at) l__law_cell_at c__law_cell_at k__law_cell_at
  have F__law_box := fun_mk (st := s__law_box) l__law_box c__law_box k__law_box
  have F__law_take := fun_mk (st := s__law_take) l__law_take c__law_take k__law_take
  have F__law_same := fun_mk (st := s__law_same) l__law_same c__law_same k__law_same
  have F__law_of := fun_mk (st := s__law_of) l__law_of c__law_of k__law_of
  have F__law_frac := fun_mk (st := s__law_frac) l__law_frac c__law_frac k__law_frac
  have F__law_draw := fun_mk (st := s__law_draw) l__law_draw c__law_draw k__law_draw
  have F__law_side := fun_mk (st := s__law_side) l__law_side c__law_side k__law_side
  have F__law_wide := fun_mk (st := s__law_wide) l__law_wide c__law_wide k__law_wide
  have F__law_below := fun_mk (st := s__law_below) l__law_below c__law_below k__law_below
  have F__law_some := fun_mk (st := s__law_some) l__law_some c__law_some k__law_some
  have F__law_next_right := fun_mk (st := s__law_next_right) l__law_next_right c__law_next_right k__law_next_right
  have F_law := fun_mk (st := s_law) l_law c_law k_law
  have F_frac : FunD K "frac" "frac" (defArgs s_frac) (defBody s_frac) (defScope s_frac) [.int 1] [] _ _ := ⟨⟨_, _, .ref T_frac, kV_frac, dc_frac, pm_frac, an_frac, cd_frac, ct_frac, _, rfl, l_frac, c_frac, .inr ⟨by simp, T_frac, _, _, _, rfl, t_frac, rfl, .cons ⟨_, rfl⟩ .nil⟩, .inl rfl⟩, k_frac⟩
  refine ⟨_, F_law, fun s u => .of_eq rfl, fun base cdv s H a ns hl X2 G2 hr hS => ?_⟩
  have O_frac : FnOk PL.prog w K mg base CX0 1 _ _ _ _ := ok_frac Z F_frac
  have C_frac : Cb PL.prog w K mg base "frac" 1 [] _ := cbD_mk 2 1 F_frac (by simp) rfl (PySem.W.mg_of X G a_frac) O_frac (fun _ _ _ _ _ _ _ us its h1 h2 => match us, its, h1, h2 with | [_, _], [_], _, _ => ⟨_, rfl, rfl⟩)
  have D_frac : Cb PL.prog w K mg base "frac" 1 [.int 1] _ := cbD_mk 1 0 F_frac (by simp) rfl (PySem.W.mg_of X G a_frac) O_frac (fun _ _ _ _ _ _ _ us its h1 h2 => match us, its, h1, h2 with | [_], [_], _, _ => ⟨_, rfl, rfl⟩)
  have C_plus : Cb PL.prog w K mg base "plus" 2 [] _ := cb_mk F_plus (PySem.W.mg_of X G a_plus) (ok_plus C_frac F_plus) (fun _ _ _ _ _ _ us hl => match us, hl with | [_, _], _ => rfl)
  have C_minus : Cb PL.prog w K mg base "minus" 2 [] _ := cb_mk F_minus (PySem.W.mg_of X G a_minus) (ok_minus C_frac F_minus) (fun _ _ _ _ _ _ us hl => match us, hl with | [_, _], _ => rfl)
  have C_times : Cb PL.prog w K mg base "times" 2 [] _ := cb_mk F_times (PySem.W.mg_of X G a_times) (ok_times C_frac F_times) (fun _ _ _ _ _ _ us hl => match us, hl with | [_, _], _ => rfl)
  have C_sign_of : Cb PL.prog w K mg base "sign_of" 1 [] _ := cb_mk F_sign_of (PySem.W.mg_of X G a_sign_of) (ok_sign F_sign_of) (fun _ _ _ _ _ _ us hl => match us, hl with | [_], _ => rfl)
  have C__parted : Cb PL.prog w K mg base "_parted" 1 [] _ := cb_mk F__parted (PySem.W.mg_of X G a__parted) (ok_parted Z F__parted) (fun _ _ _ _ _ _ us hl => match us, hl with | [_], _ => rfl)
  have C_rooted : Cb PL.prog w K mg base "rooted" 3 [] _ := cb_mk F_rooted (PySem.W.mg_of X G a_rooted) (ok_rooted Z C__parted C_times C_plus D_frac F_rooted) (fun _ _ _ _ _ _ us hl => match us, hl with | [_, _, _], _ => rfl)
  have C__square : Cb PL.prog w K mg base "_square" 3 [] _ := cb_mk F__square (PySem.W.mg_of X G a__square) (ok_square C_times D_frac F__square) (fun _ _ _ _ _ _ us hl => match us, hl with | [_, _], _ => rfl)
  have C__sign : Cb PL.prog w K mg base "_sign" 4 [] _ := cb_mk F__sign (PySem.W.mg_of X G a__sign) (ok_sgn C_sign_of C_times C_minus C__square F__sign) (fun _ _ _ _ _ _ us hl => match us, hl with | [_, _, _], _ => rfl)
  have C__sign_of_three : Cb PL.prog w K mg base "_sign_of_three" 5 [] _ := cb_mk F__sign_of_three (PySem.W.mg_of X G a__sign_of_three) (ok_three C_sign_of C_times C_minus C_plus D_frac C__square C__sign F__sign_of_three) (fun _ _ _ _ _ _ us hl => match us, hl with | [_, _, _, _, _], _ => rfl)
  have O_rsign : FnOk PL.prog w K mg base CX0 5 _ _ _ _ := ok_rsign C__sign F_root_sign
  have C_root_sign : Cb PL.prog w K mg base "root_sign" 5 [] _ := cb_mk F_root_sign (PySem.W.mg_of X G a_root_sign) (O_rsign) (fun _ _ _ _ _ _ us hl => match us, hl with | [_], _ => rfl)
  have K_root_sign : Ck PL.prog w K mg base "root_sign" 5 ["root"] same1 _ := ck_mk F_root_sign (PySem.W.mg_of X G a_root_sign) (O_rsign) (fun h => vals_same1 h) (fun _ _ _ _ _ _ ws hl => match ws, hl with | [_], _ => rfl)
  have O_less : FnOk PL.prog w K mg base CX0 6 _ _ _ _ := ok_less Z C_minus C__sign_of_three F_is_less
  have C_is_less : Cb PL.prog w K mg base "is_less" 6 [] _ := cb_mk F_is_less (PySem.W.mg_of X G a_is_less) (O_less) (fun _ _ _ _ _ _ us hl => match us, hl with | [_, _], _ => rfl)
  have K_is_less : Ck PL.prog w K mg base "is_less" 6 ["other", "one"] swap2 _ := ck_mk F_is_less (PySem.W.mg_of X G a_is_less) (O_less) (fun h => vals_swap2 h) (fun _ _ _ _ _ _ ws hl => match ws, hl with | [_, _], _ => rfl)
  have C__law_cell_at : Cb PL.prog w K mg base "_law_cell_at" 1 [] _ := cb_mk F__law_cell_at (PySem.W.mg_of X G a__law_cell_at) (ok_cell Z F__law_cell_at) (fun _ _ _ _ _ _ us hl => match us, hl with | [_, _], _ => rfl)
  have C__law_box : Cb PL.prog w K mg base "_law_box" 2 [] _ := cb_mk F__law_box (PySem.W.mg_of X G a__law_box) (ok_box Z C__law_cell_at F__law_box) (fun _ _ _ _ _ _ us hl => match us, hl with | [_, _], _ => rfl)
  have C__law_take : Cb PL.prog w K mg base "_law_take" 1 [] _ := cb_mk F__law_take (PySem.W.mg_of X G a__law_take) (ok_take F__law_take) (fun _ _ _ _ _ _ us hl => match us, hl with | [_, _], _ => rfl)
  have C__law_of : Cb PL.prog w K mg base "_law_of" 2 [] _ := cb_mk F__law_of (PySem.W.mg_of X G a__law_of) (ok_of Z C__law_take F__law_of) (fun _ _ _ _ _ _ us hl => match us, hl with | [_, _], _ => rfl)
  have C__law_frac : Cb PL.prog w K mg base "_law_frac" 1 [] _ := cb_mk F__law_frac (PySem.W.mg_of X G a__law_frac) (ok_lfrac Z F__law_frac) (fun _ _ _ _ _ _ us hl => match us, hl with | [_, _], _ => rfl)
  have C__law_same : Cb PL.prog w K mg base "_law_same" 7 [] _ := cb_mk F__law_same (PySem.W.mg_of X G a__law_same) (ok_same Z (PySem.W.mg_of X G a__law_same) F__law_same 7) (fun _ _ _ _ _ _ us hl => match us, hl with | [_, _], _ => rfl)
  have C__law_draw : Cb PL.prog w K mg base "_law_draw" 3 [] _ := cb_mk F__law_draw (PySem.W.mg_of X G a__law_draw) (ok_draw C__law_take C__law_of C__law_frac F__law_draw) (fun _ _ _ _ _ _ us hl => match us, hl with | [_, _], _ => rfl)
  have C__law_side : Cb PL.prog w K mg base "_law_side" 1 [] _ := cb_mk F__law_side (PySem.W.mg_of X G a__law_side) (ok_side Z F__law_side) (fun _ _ _ _ _ _ us hl => match us, hl with | [_], _ => rfl)
  have C__law_wide : Cb PL.prog w K mg base "_law_wide" 2 [] _ := cb_mk F__law_wide (PySem.W.mg_of X G a__law_wide) (ok_wide C__law_side F__law_wide) (fun _ _ _ _ _ _ us hl => match us, hl with | [_, _], _ => rfl)
  have C__law_below : Cb PL.prog w K mg base "_law_below" 3 [] _ := cb_mk F__law_below (PySem.W.mg_of X G a__law_below) (ok_below C__law_wide F__law_below) (fun _ _ _ _ _ _ us hl => match us, hl with | [_, _], _ => rfl)
  have C__law_some : Cb PL.prog w K mg base "_law_some" 4 [] _ := cb_mk F__law_some (PySem.W.mg_of X G a__law_some) (ok_some Z C__law_take C__law_of C__law_frac C__law_draw C__law_wide C_rooted F__law_some) (fun _ _ _ _ _ _ us hl => match us, hl with | [_], _ => rfl)
  have K__law_next_right : Ck PL.prog w K mg base "_law_next_right" 8 [] same1 _ := ck_mk F__law_next_right (PySem.W.mg_of X G a__law_next_right) (ok_next Z C__law_frac C__law_same C_is_less C_root_sign F__law_next_right) (fun h => vals_same1 h) (fun _ _ _ _ _ _ ws hl => match ws, hl with | [], _ => rfl)
  exact w_law Z hl hr K__law_next_right C__law_box C__law_some C__law_below C__law_same C_root_sign K_root_sign C_is_less K_is_less hS
end K04
open PySem PySem.W PyProof.Rows
set_option maxHeartbeats 0 in
theorem PySem.Challenge.cw_pegwishes_k04_signs_and_which_is_less_holds : PySem.Challenge.rw_pegwishes_k04_signs_and_which_is_less.Holds := by
  w_on; o_law; k_head; (case hw => w_witness2)
  k_fill
  refine Pw.law_end (l := PySem.Challenge.rw_pegwishes_k04_signs_and_which_is_less) (n := 63) (k := 9) (x := "_law_script") (nm := "law") (qual := "law") (st := K04.s_law) (N := K04.N_law) rfl (by decide) rfl ⟨rfl, by decide, by decide⟩ (fun w h Y => PySem.W.kIn_of Y) K04.sc_law ?F
  case F =>
    intro w mg fa h KX G hmg
    refine' K04.all_mk KX G hmg ?a_frac ?l_frac ?c_frac ?k_frac ?t_frac ?a_plus ?l_plus ?c_plus ?k_plus ?a_minus ?l_minus ?c_minus ?k_minus ?a_times ?l_times ?c_times ?k_times ?a_sign_of ?l_sign_of ?c_sign_of ?k_sign_of ?a__parted ?l__parted ?c__parted ?k__parted ?a_rooted ?l_rooted ?c_rooted ?k_rooted ?a_root_sign ?l_root_sign ?c_root_sign ?k_root_sign ?a__sign ?l__sign ?c__sign ?k__sign ?a__square ?l__square ?c__square ?k__square ?a_is_less ?l_is_less ?c_is_less ?k_is_less ?a__sign_of_three ?l__sign_of_three ?c__sign_of_three ?k__sign_of_three ?a__law_cell_at ?l__law_cell_at ?c__law_cell_at ?k__law_cell_at ?a__law_box ?l__law_box ?c__law_box ?k__law_box ?a__law_take ?l__law_take ?c__law_take ?k__law_take ?a__law_same ?l__law_same ?c__law_same ?k__law_same ?a__law_of ?l__law_of ?c__law_of ?k__law_of ?a__law_frac ?l__law_frac ?c__law_frac ?k__law_frac ?a__law_draw ?l__law_draw ?c__law_draw ?k__law_draw ?a__law_side ?l__law_side ?c__law_side ?k__law_side ?a__law_wide ?l__law_wide ?c__law_wide ?k__law_wide ?a__law_below ?l__law_below ?c__law_below ?k__law_below ?a__law_some ?l__law_some ?c__law_some ?k__law_some ?a__law_next_right ?l__law_next_right ?c__law_next_right ?k__law_next_right ?a_law ?l_law ?c_law ?k_law ?z_abs ?z_all ?z_bool ?z_int ?z_isinstance ?z_len ?z_list ?z_min ?z_range ?z_str ?z_tuple ?z_zip ?z_gcd ?g_N ?l_N ?g_R
    (case a_frac => k_is); (case l_frac => k_is); (case c_frac => k_is); (case k_frac => k_is); (case t_frac => k_is); (case a_plus => k_is); (case l_plus => k_is); (case c_plus => k_is); (case k_plus => k_is); (case a_minus => k_is); (case l_minus => k_is); (case c_minus => k_is); (case k_minus => k_is); (case a_times => k_is); (case l_times => k_is); (case c_times => k_is); (case k_times => k_is); (case a_sign_of => k_is); (case l_sign_of => k_is); (case c_sign_of => k_is); (case k_sign_of => k_is); (case a__parted => k_is); (case l__parted => k_is); (case c__parted => k_is); (case k__parted => k_is); (case a_rooted => k_is); (case l_rooted => k_is); (case c_rooted => k_is); (case k_rooted => k_is); (case a_root_sign => k_is); (case l_root_sign => k_is); (case c_root_sign => k_is); (case k_root_sign => k_is); (case a__sign => k_is); (case l__sign => k_is); (case c__sign => k_is); (case k__sign => k_is); (case a__square => k_is); (case l__square => k_is); (case c__square => k_is); (case k__square => k_is); (case a_is_less => k_is); (case l_is_less => k_is); (case c_is_less => k_is); (case k_is_less => k_is); (case a__sign_of_three => k_is); (case l__sign_of_three => k_is); (case c__sign_of_three => k_is); (case k__sign_of_three => k_is); (case a__law_cell_at => k_is); (case l__law_cell_at => k_is); (case c__law_cell_at => k_is); (case k__law_cell_at => k_is); (case a__law_box => k_is); (case l__law_box => k_is); (case c__law_box => k_is); (case k__law_box => k_is); (case a__law_take => k_is); (case l__law_take => k_is); (case c__law_take => k_is); (case k__law_take => k_is); (case a__law_same => k_is); (case l__law_same => k_is); (case c__law_same => k_is); (case k__law_same => k_is); (case a__law_of => k_is); (case l__law_of => k_is); (case c__law_of => k_is); (case k__law_of => k_is); (case a__law_frac => k_is); (case l__law_frac => k_is); (case c__law_frac => k_is); (case k__law_frac => k_is); (case a__law_draw => k_is); (case l__law_draw => k_is); (case c__law_draw => k_is); (case k__law_draw => k_is); (case a__law_side => k_is); (case l__law_side => k_is); (case c__law_side => k_is); (case k__law_side => k_is); (case a__law_wide => k_is); (case l__law_wide => k_is); (case c__law_wide => k_is); (case k__law_wide => k_is); (case a__law_below => k_is); (case l__law_below => k_is); (case c__law_below => k_is); (case k__law_below => k_is); (case a__law_some => k_is); (case l__law_some => k_is); (case c__law_some => k_is); (case k__law_some => k_is); (case a__law_next_right => k_is); (case l__law_next_right => k_is); (case c__law_next_right => k_is); (case k__law_next_right => k_is); (case a_law => k_is); (case l_law => k_is); (case c_law => k_is); (case k_law => k_is); (case z_abs => k_is); (case z_all => k_is); (case z_bool => k_is); (case z_int => k_is); (case z_isinstance => k_is); (case z_len => k_is); (case z_list => k_is); (case z_min => k_is); (case z_range => k_is); (case z_str => k_is); (case z_tuple => k_is); (case z_zip => k_is); (case z_gcd => k_is); (case g_N => k_is); (case l_N => k_is); (case g_R => k_is)
