import PyProof.Rows.All
import Wide.All
import OpenK.AllK
import Wide.FinOn
import HandS.ForMost
import HandS.ForExc
import HandS.Wide
import HandS.IsInst
import HandS.Gcd
import HandS.Zip
import HandS.TupAny
import HandS.TupLe
import HandS.Defaults
import HandS.Small
import HandS.ExcInit
import KE.KExcIs
import HandS.ExcField
import HandS.Iter
import HandS.Text
import HandS.StrMore
import HandS.Codes
import PyProof.StrBlock2
import HandS.Style
import HandS.NoneIn
import HandS.Star
import KE.KMathGC
import PyProof.ReprLen
import PySem.Challenge.RW_pegwishes_k47_cells_of_hoops_and_pegs
set_option Elab.async false
set_option linter.all false
set_option maxRecDepth 100000
set_option maxHeartbeats 8000000
namespace Pw
open PySem L2

/-! ## data that stands in the heap, some objects set apart -/
abbrev Fg := PySem.W.Frag
mutual
inductive At (K : Fg) (H : Hp) : V → PyData → Prop
  | non : At K H .non .none
  | bl (b : Bool) : At K H (.bl b) (.bool b)
  | int (i : Int) : At K H (.int i) (.int i)
  | str (x : Str) : At K H (.str x) (.str x)
  | lst {a : Addr} {xs : List V} {ds : List PyData} : H a = some (.lst xs) → AtAll K H xs ds → At K H (.ref a) (.list ds)
  | tup {a : Addr} {xs : List V} {ds : List PyData} : SqT K H a xs → AtAll K H xs ds → At K H (.ref a) (.tuple ds)
inductive AtAll (K : Fg) (H : Hp) : List V → List PyData → Prop
  | nil : AtAll K H [] []
  | cons {v : V} {vs : List V} {d : PyData} {ds : List PyData} : At K H v d → AtAll K H vs ds → AtAll K H (v :: vs) (d :: ds)
end
theorem same_t {K : Fg} {H H' : Hp} {a : Addr} {xs : List V} (e : Same H H') (h : SqT K H a xs) : SqT K H' a xs := by
  rcases h with (h | ⟨o, h⟩) | h
  · exact .inl (.inl (e _ _ h))
  · exact .inl (.inr ⟨o, e _ _ h⟩)
  · exact .inr h
mutual
theorem At.mono {K : Fg} {H H' : Hp} (e : Same H H') : ∀ (d : PyData) (v : V), At K H v d → At K H' v d
  | .none, _, .non => .non
  | .bool _, _, .bl _ => .bl _
  | .int _, _, .int _ => .int _
  | .str _, _, .str _ => .str _
  | .list ds, _, .lst h a => .lst (e _ _ h) (AtAll.mono e ds _ a)
  | .tuple ds, _, .tup h a => .tup (same_t e h) (AtAll.mono e ds _ a)
theorem AtAll.mono {K : Fg} {H H' : Hp} (e : Same H H') : ∀ (ds : List PyData) (vs : List V), AtAll K H vs ds → AtAll K H' vs ds
  | [], _, .nil => .nil
  | d :: ds, _, .cons h t => .cons (At.mono e d _ h) (AtAll.mono e ds _ t)
end
mutual
theorem At.dp {K : Fg} {H : Hp} : ∀ (d : PyData) (v : V), At K H v d → Dp K H v d
  | .none, _, .non => .non
  | .bool _, _, .bl _ => .bl _
  | .int _, _, .int _ => .int _
  | .str _, _, .str _ => .str _
  | .list ds, _, .lst h a => .lst (SqL.of h) (AtAll.dp ds _ a)
  | .tuple ds, _, .tup h a => .tup h (AtAll.dp ds _ a)
theorem AtAll.dp {K : Fg} {H : Hp} : ∀ (ds : List PyData) (vs : List V), AtAll K H vs ds → DpAll K H vs ds
  | [], _, .nil => .nil
  | d :: ds, _, .cons h t => .cons (At.dp d _ h) (AtAll.dp ds _ t)
end
theorem AtAll.len {K : Fg} {H : Hp} : ∀ {vs : List V} {ds : List PyData}, AtAll K H vs ds → vs.length = ds.length
  | _, _, .nil => rfl
  | _, _, .cons _ t => congrArg Nat.succ (AtAll.len t)
theorem AtAll.get {K : Fg} {H : Hp} : ∀ {vs : List V} {ds : List PyData} {i : Nat} {d : PyData}, AtAll K H vs ds → ds[i]? = some d → ∃ v, vs[i]? = some v ∧ At K H v d
  | _, _, 0, _, .cons h _, e => ⟨_, rfl, Option.some.inj e ▸ h⟩
  | _, _, i + 1, _, .cons _ t, e => AtAll.get (i := i) t e
theorem AtAll.append {K : Fg} {H : Hp} : ∀ {vs ws : List V} {ds es : List PyData}, AtAll K H vs ds → AtAll K H ws es → AtAll K H (vs ++ ws) (ds ++ es)
  | _, _, _, _, .nil, s => s
  | _, _, _, _, .cons h t, s => .cons h (AtAll.append t s)
theorem AtAll.set {K : Fg} {H : Hp} {v : V} {d : PyData} (h : At K H v d) : ∀ {vs : List V} {ds : List PyData} (i : Nat), AtAll K H vs ds → AtAll K H (vs.set i v) (ds.set i d)
  | _, _, _, .nil => .nil
  | _, _, 0, .cons _ t => .cons h t
  | _, _, i + 1, .cons g t => .cons g (AtAll.set h i t)
theorem AtAll.drop {K : Fg} {H : Hp} : ∀ {vs : List V} {ds : List PyData} (n : Nat), AtAll K H vs ds → AtAll K H (vs.drop n) (ds.drop n)
  | _, _, 0, r => r
  | _, _, _ + 1, .nil => .nil
  | _, _, n + 1, .cons _ t => AtAll.drop n t
theorem AtAll.take {K : Fg} {H : Hp} : ∀ {vs : List V} {ds : List PyData} (n : Nat), AtAll K H vs ds → AtAll K H (vs.take n) (ds.take n)
  | _, _, 0, _ => .nil
  | _, _, _ + 1, .nil => .nil
  | _, _, n + 1, .cons r t => .cons r (AtAll.take n t)
theorem AtAll.ints {K : Fg} {H : Hp} : ∀ {vs : List V} {ns : List Int}, AtAll K H vs (ns.map PyData.int) → vs = ns.map V.int
  | _, [], .nil => rfl
  | _, n :: ns, .cons (.int _) t => congrArg (V.int n :: ·) (AtAll.ints t)
theorem AtAll.bls {K : Fg} {H : Hp} : ∀ {vs : List V} {ns : List Bool}, AtAll K H vs (ns.map PyData.bool) → vs = ns.map V.bl
  | _, [], .nil => rfl
  | _, n :: ns, .cons (.bl _) t => congrArg (V.bl n :: ·) (AtAll.bls t)

def hid (M : List Addr) (H : Hp) : Hp := fun a => if a ∈ M then none else H a
theorem hid_in {M : List Addr} {H : Hp} {a : Addr} (h : a ∈ M) : hid M H a = none := if_pos h
theorem hid_out {M : List Addr} {H : Hp} {a : Addr} (h : a ∉ M) : hid M H a = H a := if_neg h
theorem hid_some {M : List Addr} {H : Hp} {a : Addr} {o : HO} (h : hid M H a = some o) : a ∉ M ∧ H a = some o := by
  by_cases c : a ∈ M
  · rw [hid_in c] at h; cases h
  · rw [hid_out c] at h; exact ⟨c, h⟩
theorem hid_same {M : List Addr} {H : Hp} : Same (hid M H) H := fun _ _ h => (hid_some h).2
theorem hid_upd {M : List Addr} {H : Hp} {p : Addr} {o : HO} (h : p ∈ M) : hid M (upd H p o) = hid M H := by
  funext a
  by_cases c : a ∈ M
  · rw [hid_in c, hid_in c]
  · rw [hid_out c, hid_out c, upd_ne (fun e => c (by rw [e]; exact h))]
theorem hid_sub {M N : List Addr} {H : Hp} (h : ∀ a, a ∈ M → a ∈ N) : Same (hid N H) (hid M H) := fun a o e => by
  obtain ⟨c, e⟩ := hid_some e
  rw [hid_out (fun m => c (h a m))]
  exact e
theorem hid_new {M : List Addr} {H : Hp} {p : Addr} {o : HO} (hp : H p = none) : Same (hid M H) (hid M (upd H p o)) := fun a u e => by
  obtain ⟨c, e⟩ := hid_some e
  rw [hid_out c, upd_ne (ne_of_none e hp)]
  exact e
theorem same_hid {M : List Addr} {H H' : Hp} (h : Same H H') : Same (hid M H) (hid M H') := fun a o e => by
  obtain ⟨c, e⟩ := hid_some e
  rw [hid_out c]
  exact h _ _ e

/-- a value of the logic: data, a list of the store (by its number), the script -/
inductive Dx where
  | d (d : PyData) | loc (k : Nat) | scr (ns : List Int) | exc (cls : Value) (fo : Option (Str × PyData))
/-- an exception at a, held: its class, its dict -/
def exk (cls : Value) (d : Option Addr) (a : Addr) : HO := .ext fun h => ∃ (oe : Obj) (vs : Array Value), h.get? a = some oe ∧ Zc cls d oe ∧ oe.data = .fields vs
/-- an error's own dict -/
inductive XD (K : Fg) (M : List Addr) (H : Hp) : Option Addr → Option (Str × PyData) → Prop
  | none : XD K M H none none
  | one {dx : Addr} {f : Str} {v : V} {y : PyData} : hid M H dx = some (.xd [(f, v)]) → At K (hid M H) v y → XD K M H (some dx) (some (f, y))
theorem XD.up {K : Fg} {M M' : List Addr} {H H' : Hp} {d : Option Addr} {fo : Option (Str × PyData)} (e : Same (hid M H) (hid M' H')) (h : XD K M H d fo) : XD K M' H' d fo := by
  cases h with
  | none => exact .none
  | one h1 h2 => exact .one (e _ _ h1) (At.mono e _ _ h2)
def RX (K : Fg) (M : List Addr) (H : Hp) (v : V) : Dx → Prop
  | .d d => At K (hid M H) v d
  | .loc k => ∃ p, M[k]? = some p ∧ v = .ref p
  | .scr ns => ∃ a, v = .ref a ∧ SqL K (hid M H) a (ns.map V.int)
  | .exc cls fo => ∃ a d, v = .ref a ∧ hid M H a = some (exk cls d a) ∧ XD K M H d fo
theorem RX.mono {K : Fg} {M : List Addr} {H H' : Hp} {v : V} (e : Same (hid M H) (hid M H')) : ∀ {x : Dx}, RX K M H v x → RX K M H' v x
  | .d d, h => At.mono e d v h
  | .loc _, h => h
  | .scr _, ⟨a, h1, h2⟩ => ⟨a, h1, e.seq h2⟩
  | .exc _ _, ⟨a, d, h1, h2, h3⟩ => ⟨a, d, h1, e _ _ h2, h3.up e⟩
abbrev Sto := List (List PyData)
abbrev En := List (Option Dx)
structure So (K : Fg) (M : List Addr) (s : Sto) (H : Hp) : Prop where
  nd : M.Nodup
  len : s.length = M.length
  at_ : ∀ (k : Nat) (p : Addr) (ds : List PyData), M[k]? = some p → s[k]? = some ds → ∃ vs, H p = some (.lst vs) ∧ AtAll K (hid M H) vs ds
theorem So.get {K : Fg} {M : List Addr} {s : Sto} {H : Hp} (h : So K M s H) {k : Nat} {ds : List PyData} (e : s[k]? = some ds) : ∃ p vs, M[k]? = some p ∧ H p = some (.lst vs) ∧ AtAll K (hid M H) vs ds := by
  have hk : k < M.length := by
    rw [← h.len]
    exact (List.getElem?_eq_some_iff.mp e).1
  obtain ⟨vs, h1, h2⟩ := h.at_ k M[k] ds (List.getElem?_eq_getElem hk) e
  exact ⟨M[k], vs, List.getElem?_eq_getElem hk, h1, h2⟩
theorem So.in_ {K : Fg} {M : List Addr} {s : Sto} {H : Hp} (h : So K M s H) {p : Addr} (e : p ∈ M) : ∃ vs, H p = some (.lst vs) := by
  obtain ⟨k, hk, rfl⟩ := List.getElem_of_mem e
  have hs : k < s.length := by rw [h.len]; exact hk
  obtain ⟨vs, h1, _⟩ := h.at_ k _ s[k] (List.getElem?_eq_getElem hk) (List.getElem?_eq_getElem hs)
  exact ⟨vs, h1⟩
theorem So.free {K : Fg} {M : List Addr} {s : Sto} {H : Hp} (h : So K M s H) {p : Addr} (e : H p = none) : p ∉ M := fun m => by
  obtain ⟨vs, q⟩ := h.in_ m
  rw [e] at q
  cases q
/-- a new object beside the store -/
theorem So.new {K : Fg} {M : List Addr} {s : Sto} {H : Hp} {p : Addr} {o : HO} (h : So K M s H) (hp : H p = none) : So K M s (upd H p o) :=
  ⟨h.nd, h.len, fun k q ds e1 e2 => by
    obtain ⟨vs, h1, h2⟩ := h.at_ k q ds e1 e2
    exact ⟨vs, by rw [upd_ne (ne_of_none h1 hp)]; exact h1, AtAll.mono (hid_new hp) ds vs h2⟩⟩
/-- a list of the store is written -/
theorem So.put {K : Fg} {M : List Addr} {s : Sto} {H : Hp} {k : Nat} {p : Addr} {ws : List V} {es : List PyData} (h : So K M s H) (hp : M[k]? = some p) (a : AtAll K (hid M H) ws es) : So K M (s.set k es) (upd H p (.lst ws)) := by
  have hm : p ∈ M := List.mem_of_getElem? hp
  refine ⟨h.nd, by rw [List.length_set]; exact h.len, fun j q ds e1 e2 => ?_⟩
  rw [hid_upd hm]
  by_cases c : j = k
  · subst c
    rw [hp] at e1; cases e1
    have hk : j < s.length := by
      have := (List.getElem?_eq_some_iff.mp hp).1
      rw [h.len]; exact this
    rw [List.getElem?_set_self hk] at e2
    cases e2
    exact ⟨ws, upd_same, a⟩
  · rw [List.getElem?_set_ne (Ne.symm c)] at e2
    obtain ⟨vs, h1, h2⟩ := h.at_ j q ds e1 e2
    have ne : q ≠ p := fun e => by
      subst e
      exact c (nd_ix h.nd e1 hp)
    exact ⟨vs, by rw [upd_ne ne]; exact h1, h2⟩
/-- a new list joins the store -/
theorem So.add {K : Fg} {M : List Addr} {s : Sto} {H : Hp} {p : Addr} {ws : List V} {es : List PyData} (h : So K M s H) (hp : H p = none) (a : AtAll K (hid M H) ws es) : So K (M ++ [p]) (s ++ [es]) (upd H p (.lst ws)) := by
  have hm := h.free hp
  have e0 : Same (hid M H) (hid (M ++ [p]) (upd H p (.lst ws))) := fun b o e => by
    obtain ⟨c, e⟩ := hid_some e
    have nb := ne_of_none e hp
    rw [hid_out (by simp [c, nb]), upd_ne nb]
    exact e
  refine ⟨?_, by simp [h.len], fun j q ds e1 e2 => ?_⟩
  · rw [List.nodup_append]
    exact ⟨h.nd, by simp, fun x hx y hy => by simp at hy; subst hy; exact fun e => hm (e ▸ hx)⟩
  · by_cases c : j < M.length
    · rw [List.getElem?_append_left c] at e1
      rw [List.getElem?_append_left (by rw [h.len]; exact c)] at e2
      obtain ⟨vs, h1, h2⟩ := h.at_ j q ds e1 e2
      exact ⟨vs, by rw [upd_ne (ne_of_none h1 hp)]; exact h1, AtAll.mono e0 ds vs h2⟩
    · have cj : j = M.length := by
        have := (List.getElem?_eq_some_iff.mp e1).1
        simp at this
        omega
      subst cj
      rw [List.getElem?_append_right (Nat.le_refl _), Nat.sub_self] at e1
      rw [List.getElem?_append_right (by rw [h.len]; exact Nat.le_refl _), h.len, Nat.sub_self] at e2
      cases e1; cases e2
      exact ⟨ws, upd_same, AtAll.mono e0 _ _ a⟩
/-- the last lists of the store are let go -/
theorem So.cut {K : Fg} {M N : List Addr} {s t : Sto} {H : Hp} (h : So K (M ++ N) (s ++ t) H) (hl : s.length = M.length) : So K M s H := by
  refine ⟨(List.nodup_append.mp h.nd).1, hl, fun j q ds e1 e2 => ?_⟩
  have hj := (List.getElem?_eq_some_iff.mp e1).1
  obtain ⟨vs, h1, h2⟩ := h.at_ j q ds (by rw [List.getElem?_append_left hj]; exact e1) (by rw [List.getElem?_append_left (by rw [hl]; exact hj)]; exact e2)
  exact ⟨vs, h1, AtAll.mono (hid_sub fun a m => List.mem_append_left _ m) ds vs h2⟩

structure RE (K : Fg) (M : List Addr) (H : Hp) (σ : L2.St) (ρ : En) : Prop where
  len : σ.length = ρ.length
  at_ : ∀ (i : Nat) (x : Dx), ρ[i]? = some (some x) → ∃ v, σ[i]? = some (some v) ∧ RX K M H v x
theorem RE.mono {K : Fg} {M : List Addr} {H H' : Hp} {σ : L2.St} {ρ : En} (e : Same (hid M H) (hid M H')) (h : RE K M H σ ρ) : RE K M H' σ ρ :=
  ⟨h.len, fun i x hx => let ⟨v, h1, h2⟩ := h.at_ i x hx; ⟨v, h1, h2.mono e⟩⟩
theorem RE.set {K : Fg} {M : List Addr} {H : Hp} {σ : L2.St} {ρ : En} {i : Nat} {v : V} {x : Dx} (h : RE K M H σ ρ) (r : RX K M H v x) : RE K M H (σ.set i (some v)) (ρ.set i (some x)) := by
  refine ⟨by simpa using h.len, fun j y hy => ?_⟩
  by_cases c : j = i
  · subst c
    by_cases hj : j < ρ.length
    · rw [List.getElem?_set_self hj] at hy
      cases hy
      exact ⟨v, List.getElem?_set_self (by rw [h.len]; exact hj), r⟩
    · rw [List.getElem?_eq_none (by simpa using hj)] at hy
      cases hy
  · rw [List.getElem?_set_ne (Ne.symm c)] at hy
    obtain ⟨w, h1, h2⟩ := h.at_ j y hy
    exact ⟨w, by rw [List.getElem?_set_ne (Ne.symm c)]; exact h1, h2⟩

/-! ## what an expression gives -/
def Okk (K : Fg) (M : List Addr) (s' : Sto) (x : Dx) (H : Hp) (Q : VK) : Prop := ∀ v H', Same (hid M H) (hid M H') → So K M s' H' → RX K M H' v x → Q v H'
def Ev (K : Fg) (te : TE) (ρ : En) (s : Sto) (x : Dx) (s' : Sto) : Prop := ∀ M σ H, So K M s H → RE K M H σ ρ → ∀ Q : VK, Okk K M s' x H Q → te σ H Q
/-- a new list: it stands behind the store -/
def EvN (K : Fg) (te : TE) (ρ : En) (s : Sto) (ds : List PyData) (s' : Sto) : Prop := ∀ M σ H, So K M s H → RE K M H σ ρ → ∀ Q : VK,
  (∀ p H', H p = none → Same (hid M H) (hid M H') → So K (M ++ [p]) (s' ++ [ds]) H' → So K M s' H' → Q (.ref p) H') → te σ H Q
inductive RXs (K : Fg) (M : List Addr) (H : Hp) : List V → List Dx → Prop
  | nil : RXs K M H [] []
  | cons {v vs x xs} : RX K M H v x → RXs K M H vs xs → RXs K M H (v :: vs) (x :: xs)
theorem RXs.mono {K : Fg} {M : List Addr} {H H' : Hp} (e : Same (hid M H) (hid M H')) : ∀ {vs : List V} {xs : List Dx}, RXs K M H vs xs → RXs K M H' vs xs
  | _, _, .nil => .nil
  | _, _, .cons h t => .cons (h.mono e) (t.mono e)
def Eva (K : Fg) (ta : TA) (ρ : En) (s : Sto) (xs : List Dx) (s' : Sto) : Prop := ∀ M σ H, So K M s H → RE K M H σ ρ → ∀ Q : List V → Hp → Prop,
  (∀ vs H', Same (hid M H) (hid M H') → So K M s' H' → RXs K M H' vs xs → Q vs H') → ta σ H Q
def EvT (K : Fg) (tt : TT) (ρ : En) (s : Sto) (b : Bool) (s' : Sto) : Prop := ∀ M σ H, So K M s H → RE K M H σ ρ → ∀ Q : Bool → Hp → Prop,
  (∀ H', Same (hid M H) (hid M H') → So K M s' H' → Q b H') → tt σ H Q
def Op2 (K : Fg) (r : R2) (x y : Dx) (s : Sto) (z : Dx) (s' : Sto) : Prop := ∀ M H v w, So K M s H → RX K M H v x → RX K M H w y → ∀ Q : VK, Okk K M s' z H Q → r v w H Q
/-- .. with a new list -/
def Op2N (K : Fg) (r : R2) (x y : Dx) (s : Sto) (ds : List PyData) (s' : Sto) : Prop := ∀ M H v w, So K M s H → RX K M H v x → RX K M H w y → ∀ Q : VK,
  (∀ p H', H p = none → Same (hid M H) (hid M H') → So K (M ++ [p]) (s' ++ [ds]) H' → So K M s' H' → Q (.ref p) H') → r v w H Q
def Op1 (K : Fg) (r : V → Hp → VK → Prop) (x : Dx) (s : Sto) (z : Dx) (s' : Sto) : Prop := ∀ M H v, So K M s H → RX K M H v x → ∀ Q : VK, Okk K M s' z H Q → r v H Q
/-- a call of a built-in, by values -/
def OpC (K : Fg) (r : List V → Hp → VK → Prop) (xs : List Dx) (s : Sto) (z : Dx) (s' : Sto) : Prop := ∀ M H vs, So K M s H → RXs K M H vs xs → ∀ Q : VK, Okk K M s' z H Q → r vs H Q

section
variable {K : Fg} {ρ : En} {s s1 s2 s3 : Sto} {x y z : Dx} {xs : List Dx} {ta tb te : TE} {tas : TA} {t u : TT} {r : R2} {b c : Bool} {i j k : Int}
theorem Okk.here {M : List Addr} {H : Hp} {Q : VK} {v : V} (q : Okk K M s x H Q) (S : So K M s H) (h : RX K M H v x) : Q v H := q v H (Same.refl _) S h
theorem Okk.step {M : List Addr} {H H1 : Hp} {Q : VK} (q : Okk K M s x H Q) (e : Same (hid M H) (hid M H1)) : Okk K M s x H1 Q := fun v H2 e2 => q v H2 (e.trans e2)
theorem ev_var {n : Nat} (h : ρ[n]? = some (some x)) : Ev K (tVar n) ρ s x s := fun M σ H S R Q q => by
  obtain ⟨v, h1, h2⟩ := R.at_ n x h
  exact ⟨v, h1, q.here S h2⟩
theorem ev_int : Ev K (tC (.int i)) ρ s (.d (.int i)) s := fun M σ H S R Q q => q.here S (.int i)
theorem ev_bl : Ev K (tC (.bl b)) ρ s (.d (.bool b)) s := fun M σ H S R Q q => q.here S (.bl b)
theorem ev_non : Ev K (tC .non) ρ s (.d .none) s := fun M σ H S R Q q => q.here S .non
theorem ev_str {w : Str} : Ev K (tC (.str w)) ρ s (.d (.str w)) s := fun M σ H S R Q q => q.here S (.str w)
theorem ev_k {v : V} {d : PyData} (h : ∀ H, At K H v d) : Ev K (tC v) ρ s (.d d) s := fun M σ H S R Q q => q.here S (h _)
theorem ev_op (ha : Ev K ta ρ s x s1) (hb : Ev K tb ρ s1 y s2) (hr : Op2 K r x y s2 z s3) : Ev K (tOp r ta tb) ρ s z s3 := fun M σ H S R Q q =>
  ha M σ H S R _ fun v H1 e1 S1 r1 => hb M σ H1 S1 (R.mono e1) _ fun w H2 e2 S2 r2 => hr M H2 v w S2 (r1.mono e2) r2 Q (q.step (e1.trans e2))
theorem evn_op {ds : List PyData} (ha : Ev K ta ρ s x s1) (hb : Ev K tb ρ s1 y s2) (hr : Op2N K r x y s2 ds s3) : EvN K (tOp r ta tb) ρ s ds s3 := fun M σ H S R Q q =>
  ha M σ H S R _ fun v H1 e1 S1 r1 => hb M σ H1 S1 (R.mono e1) _ fun w H2 e2 S2 r2 => hr M H2 v w S2 (r1.mono e2) r2 Q fun p H3 hp e3 S3 =>
    have e := e1.trans e2
    q p H3 (by
      cases hq : H p with
      | none => rfl
      | some o =>
        by_cases c : p ∈ M
        · exact absurd c (S2.free hp)
        · have := hid_some (e p o (by rw [hid_out c]; exact hq))
          rw [hp] at this; cases this.2) (e.trans e3) S3
theorem ev_un {r : V → Hp → VK → Prop} (ha : Ev K ta ρ s x s1) (hr : Op1 K r x s1 z s2) : Ev K (tUn r ta) ρ s z s2 := fun M σ H S R Q q =>
  ha M σ H S R _ fun v H1 e1 S1 r1 => hr M H1 v S1 r1 Q (q.step e1)
theorem ev_cb {r : List V → Hp → VK → Prop} (ha : Eva K tas ρ s xs s1) (hr : OpC K r xs s1 z s2) : Ev K (tCB r tas) ρ s z s2 := fun M σ H S R Q q =>
  ha M σ H S R _ fun v H1 e1 S1 r1 => hr M H1 v S1 r1 Q (q.step e1)
theorem eva_nil : Eva K tNil ρ s [] s := fun M σ H S R Q q => q [] H (Same.refl _) S .nil
theorem eva_cons (ha : Ev K ta ρ s x s1) (hr : Eva K tas ρ s1 xs s2) : Eva K (tCons ta tas) ρ s (x :: xs) s2 := fun M σ H S R Q q =>
  ha M σ H S R _ fun v H1 e1 S1 r1 => hr M σ H1 S1 (R.mono e1) _ fun vs H2 e2 S2 r2 => q _ H2 (e1.trans e2) S2 (.cons (r1.mono e2) r2)
theorem Ev.to {x' : Dx} {s' : Sto} (h : Ev K ta ρ s x s1) (e : x = x') (e2 : s1 = s') : Ev K ta ρ s x' s' := e ▸ e2 ▸ h
theorem Ev.is {x' : Dx} (h : Ev K ta ρ s x s1) (e : x = x') : Ev K ta ρ s x' s1 := e ▸ h
/-- the data of values -/
theorem rxs_data {M : List Addr} {H : Hp} : ∀ {vs : List V} {ds : List PyData}, RXs K M H vs (ds.map Dx.d) → AtAll K (hid M H) vs ds
  | _, [], .nil => .nil
  | _, _ :: _, .cons h t => .cons h (rxs_data t)
theorem so_drop {M : List Addr} {H : Hp} {p : Addr} {ds : List PyData} (S : So K (M ++ [p]) (s ++ [ds]) H) (hl : s.length = M.length) : At K (hid M H) (.ref p) (.list ds) := by
  obtain ⟨vs, h1, h2⟩ := S.at_ M.length p ds (by simp) (by rw [List.getElem?_append_right (by omega)]; simp [hl])
  have hp : p ∉ M := fun m => (List.nodup_append.mp S.nd).2.2 p m p (by simp) rfl
  exact .lst (by rw [hid_out hp]; exact h1) (AtAll.mono (hid_sub fun a m => List.mem_append_left _ m) ds vs h2)
theorem ev_new {ds : List PyData} (h : EvN K te ρ s ds s1) : Ev K te ρ s (.d (.list ds)) s1 := fun M σ H S R Q q =>
  h M σ H S R _ fun p H1 hp e S1 S2 => q _ H1 e S2 (so_drop S1 S2.len)
theorem ev_tup {ds : List PyData} (h : Eva K tas ρ s (ds.map Dx.d) s1) (hl : ds.length ≤ 100000) : Ev K (tTup tas) ρ s (.d (.tuple ds)) s1 := fun M σ H S R Q q =>
  h M σ H S R _ fun vs H1 e1 S1 r1 => by
    have a := rxs_data r1
    refine ⟨by rw [a.len]; exact Nat.le_trans hl (by decide), fun p hp => ?_⟩
    refine q _ _ (e1.trans (hid_new hp)) (S1.new hp) (At.tup (SqT.of ?_) (AtAll.mono (hid_new hp) _ _ a))
    rw [hid_out (S1.free hp)]
    exact upd_same
theorem evn_lst {ds : List PyData} (h : Eva K tas ρ s (ds.map Dx.d) s1) (hl : ds.length ≤ 100000) : EvN K (tLst tas) ρ s ds s1 := fun M σ H S R Q q =>
  h M σ H S R _ fun vs H1 e1 S1 r1 => by
    have a := rxs_data r1
    refine ⟨by rw [a.len]; exact Nat.le_trans hl (by decide), fun p hp => ?_⟩
    refine q p _ ?_ (e1.trans (hid_new hp)) (S1.add hp a) (S1.new hp)
    cases hq : H p with
    | none => rfl
    | some o =>
      have := hid_some (e1 p o (by rw [hid_out (S1.free hp)]; exact hq))
      rw [hp] at this
      cases this.2
theorem et_test (h : Ev K te ρ s (.d (.bool b)) s1) : EvT K (tTest te) ρ s b s1 := fun M σ H S R Q q => h M σ H S R _ fun v H1 e S1 r => by
  cases r
  exact ⟨b, rfl, q H1 e S1⟩
theorem et_B (h : Ev K te ρ s (.d (.bool b)) s1) : EvT K (tB te) ρ s b s1 := fun M σ H S R Q q => h M σ H S R _ fun v H1 e S1 r => by
  cases r
  exact ⟨b, rfl, q H1 e S1⟩
theorem et_not (h : EvT K t ρ s b s1) : EvT K (tNot t) ρ s (!b) s1 := fun M σ H S R Q q => h M σ H S R _ q
theorem et_and (h1 : EvT K t ρ s b s1) (h2 : b = true → EvT K u ρ s1 c s2) (h3 : b = false → s2 = s1) : EvT K (tAnd t u) ρ s (b && c) s2 := fun M σ H S R Q q => h1 M σ H S R _ fun H1 e S1 => by
  cases b with
  | true => exact h2 rfl M σ H1 S1 (R.mono e) Q fun H2 e2 => q H2 (e.trans e2)
  | false => exact q H1 e (h3 rfl ▸ S1)
theorem et_or (h1 : EvT K t ρ s b s1) (h2 : b = false → EvT K u ρ s1 c s2) (h3 : b = true → s2 = s1) : EvT K (tOr t u) ρ s (b || c) s2 := fun M σ H S R Q q => h1 M σ H S R _ fun H1 e S1 => by
  cases b with
  | false => exact h2 rfl M σ H1 S1 (R.mono e) Q fun H2 e2 => q H2 (e.trans e2)
  | true => exact q H1 e (h3 rfl ▸ S1)
theorem EvT.is (h : EvT K t ρ s b s1) (e : b = c) : EvT K t ρ s c s1 := e ▸ h
theorem ev_andV (h1 : Ev K ta ρ s (.d (.bool b)) s1) (h2 : b = true → Ev K tb ρ s1 (.d (.bool c)) s2) (h3 : b = false → s2 = s1) : Ev K (tAndV ta tb) ρ s (.d (.bool (b && c))) s2 := fun M σ H S R Q q => h1 M σ H S R _ fun v H1 e S1 r => by
  cases r
  refine ⟨b, rfl, ?_⟩
  cases b with
  | true => exact h2 rfl M σ H1 S1 (R.mono e) Q (q.step e)
  | false => exact q _ H1 e (h3 rfl ▸ S1) (.bl false)
theorem ev_orV (h1 : Ev K ta ρ s (.d (.bool b)) s1) (h2 : b = false → Ev K tb ρ s1 (.d (.bool c)) s2) (h3 : b = true → s2 = s1) : Ev K (tOrV ta tb) ρ s (.d (.bool (b || c))) s2 := fun M σ H S R Q q => h1 M σ H S R _ fun v H1 e S1 r => by
  cases r
  refine ⟨b, rfl, ?_⟩
  cases b with
  | false => exact h2 rfl M σ H1 S1 (R.mono e) Q (q.step e)
  | true => exact q _ H1 e (h3 rfl ▸ S1) (.bl true)
theorem ev_notV (h : Ev K ta ρ s (.d (.bool b)) s1) : Ev K (tNotV ta) ρ s (.d (.bool (!b))) s1 := fun M σ H S R Q q => h M σ H S R _ fun v H1 e S1 r => by
  cases r
  exact ⟨b, rfl, q _ H1 e S1 (.bl _)⟩
theorem ev_if (h : EvT K t ρ s b s1) (h1 : b = true → Ev K ta ρ s1 x s2) (h2 : b = false → Ev K tb ρ s1 x s2) : Ev K (tIf t ta tb) ρ s x s2 := fun M σ H S R Q q => h M σ H S R _ fun H1 e S1 => by
  cases b with
  | true => exact h1 rfl M σ H1 S1 (R.mono e) Q (q.step e)
  | false => exact h2 rfl M σ H1 S1 (R.mono e) Q (q.step e)

/-! ### operators by values -/
theorem o_I0i {g : Int → Int → Int} : Op2 K (rI0 fun i j => .int (g i j)) (.d (.int i)) (.d (.int j)) s (.d (.int (g i j))) s := fun M H v w S r1 r2 Q q => by
  cases r1; cases r2
  exact ⟨i, j, rfl, rfl, q.here S (.int _)⟩
theorem o_I0b {g : Int → Int → Bool} : Op2 K (rI0 fun i j => .bl (g i j)) (.d (.int i)) (.d (.int j)) s (.d (.bool (g i j))) s := fun M H v w S r1 r2 Q q => by
  cases r1; cases r2
  exact ⟨i, j, rfl, rfl, q.here S (.bl _)⟩
theorem o_I {C : Int → Int → Prop} {g : Int → Int → Int} (hc : C i j) : Op2 K (rI C fun i j => .int (g i j)) (.d (.int i)) (.d (.int j)) s (.d (.int (g i j))) s := fun M H v w S r1 r2 Q q => by
  cases r1; cases r2
  exact ⟨i, j, rfl, rfl, hc, q.here S (.int _)⟩
theorem o_U {g : Int → Int} : Op1 K (rU fun i => .int (g i)) (.d (.int i)) s (.d (.int (g i))) s := fun M H v S r Q q => by
  cases r
  exact ⟨i, rfl, q.here S (.int _)⟩
theorem o_eq {d e : PyData} (h1 : SeqAt.shaped d = true) (h2 : SeqAt.shaped e = true) : Op2 K (rEqD K) (.d d) (.d e) s (.d (.bool (PyData.eqv d e))) s := fun M H v w S r1 r2 Q q =>
  ⟨d, e, At.dp _ _ (At.mono hid_same _ _ r1), At.dp _ _ (At.mono hid_same _ _ r2), h1, h2, q.here S (.bl _)⟩
theorem o_ne {d e : PyData} (h1 : SeqAt.shaped d = true) (h2 : SeqAt.shaped e = true) : Op2 K (rNeD K) (.d d) (.d e) s (.d (.bool (!PyData.eqv d e))) s := fun M H v w S r1 r2 Q q =>
  ⟨d, e, At.dp _ _ (At.mono hid_same _ _ r1), At.dp _ _ (At.mono hid_same _ _ r2), h1, h2, q.here S (.bl _)⟩
theorem at_get {α β : Type} {R : α → β → Prop} {vs : List α} {ds : List β} (hl : vs.length = ds.length) (hg : ∀ (i : Nat) (d : β), ds[i]? = some d → ∃ v, vs[i]? = some v ∧ R v d) {n : Int} {d : β} (h : atI ds n = some d) : ∃ v, atI vs n = some v ∧ R v d := by
  unfold atI at h ⊢
  rw [hl]
  cases e : ixN ds.length n with
  | none => rw [e] at h; cases h
  | some j =>
    rw [e] at h
    exact hg j d h
/-- x[n] -/
theorem o_ixT {ds : List PyData} {d : PyData} (h : atI ds i = some d) : Op2 K (rIx K) (.d (.tuple ds)) (.d (.int i)) s (.d d) s := fun M H v w S r1 r2 Q q => by
  cases r1 with
  | tup h1 h2 =>
    cases r2
    obtain ⟨v, e, r⟩ := at_get h2.len (fun _ _ e => h2.get e) h
    exact .inr (.inl ⟨_, _, i, v, rfl, rfl, same_t hid_same h1, e, q.here S r⟩)
theorem o_ixL {ds : List PyData} {d : PyData} (h : atI ds i = some d) : Op2 K (rIx K) (.d (.list ds)) (.d (.int i)) s (.d d) s := fun M H v w S r1 r2 Q q => by
  cases r1 with
  | lst h1 h2 =>
    cases r2
    obtain ⟨v, e, r⟩ := at_get h2.len (fun _ _ e => h2.get e) h
    exact .inl ⟨_, _, i, v, rfl, rfl, SqL.of (hid_some h1).2, e, q.here S r⟩
theorem o_ixM {k : Nat} {ds : List PyData} {d : PyData} (hk : s[k]? = some ds) (h : atI ds i = some d) : Op2 K (rIx K) (.loc k) (.d (.int i)) s (.d d) s := fun M H v w S r1 r2 Q q => by
  obtain ⟨p, e1, rfl⟩ := r1
  obtain ⟨p', vs, e2, h1, h2⟩ := S.get hk
  rw [e1] at e2; cases e2
  cases r2
  obtain ⟨v, e, r⟩ := at_get h2.len (fun _ _ e => h2.get e) h
  exact .inl ⟨_, _, i, v, rfl, rfl, SqL.of h1, e, q.here S r⟩
theorem o_ixS {ns : List Int} {n : Int} (h : atI ns i = some n) : Op2 K (rIx K) (.scr ns) (.d (.int i)) s (.d (.int n)) s := fun M H v w S r1 r2 Q q => by
  obtain ⟨a, rfl, h1⟩ := r1
  cases r2
  have e : atI (ns.map V.int) i = some (.int n) := by
    obtain ⟨v, e, r⟩ := at_get (R := fun v d => v = V.int d) (vs := ns.map V.int) (by simp) (fun j d e => ⟨_, by rw [List.getElem?_map, e]; rfl, rfl⟩) h
    rw [e, r]
  refine .inl ⟨_, _, i, _, rfl, rfl, ?_, e, q.here S (.int n)⟩
  rcases h1 with (h1 | ⟨o, h1⟩) | h1
  · exact .inl (.inl (hid_some h1).2)
  · exact .inl (.inr ⟨o, (hid_some h1).2⟩)
  · exact .inr h1
end
end Pw
namespace Pw
open PySem L2
section
variable {K : Fg} {ρ : En} {s s1 s2 s3 : Sto} {x y z : Dx} {xs : List Dx} {ta tb te : TE} {tas : TA} {t u : TT} {r r' : R2} {b c : Bool} {i j k : Int} {X : Cx}

/-! ### one rule an operator, whatever the kinds of its operands -/
structure CM (i j : Int) : Prop where
  ok : IntMulOk i j
theorem cm_ok {i j : Int} (h : CM i j) : IntMulOk i j := h.ok
theorem cm_mk {i j : Int} (h : CMul i j) : CM i j := ⟨h.ok⟩
theorem cm_big {i j : Int} {n m : Nat} (h1 : i.natAbs < 2 ^ n) (h2 : j.natAbs < 2 ^ m) (hn : n ≤ 60000000) (hm : m ≤ 60000000) : CM i j := ⟨by
  intro q
  rw [Bool.and_eq_true] at q
  have z2 := q.2
  unfold Builtin.Int.intTooBig at z2
  have z3 := of_decide_eq_true z2
  rw [show bitsLine = 134217728 by decide] at z3
  have a := PyProof.Rows.intBits_le h1
  have b := PyProof.Rows.intBits_le h2
  omega⟩
structure CF (i j : Int) : Prop where
  nz : j ≠ 0
  sm : j.natAbs.log2 < 9000
theorem o_inl {s' : Sto} (h : Op2 K r x y s z s') : Op2 K (fun x y H Q => r x y H Q ∨ r' x y H Q) x y s z s' := fun M H v w S r1 r2 Q q => .inl (h M H v w S r1 r2 Q q)
theorem o_inr {s' : Sto} (h : Op2 K r' x y s z s') : Op2 K (fun x y H Q => r x y H Q ∨ r' x y H Q) x y s z s' := fun M H v w S r1 r2 Q q => .inr (h M H v w S r1 r2 Q q)
def rAddI : R2 := rI0 fun i j => .int (i + j)
def rAddS : R2 := fun x y H Q => ∃ i j, x = .str i ∧ y = .str j ∧ i.length + j.length ≤ sizeLine ∧ Q (.str (i ++ j)) H
def rPlus (K : Fg) : R2 := fun x y H Q => rAddI x y H Q ∨ rAddS x y H Q ∨ rCat x y H Q ∨ rCatA K x y H Q
theorem op_plus : OpR X (binaryOp .Add) (rPlus X.K) := op_add.or (op_add_str.or (op_cat.or op_catA))
def rMulI : R2 := rI CM fun i j => .int (i * j)
theorem op_mulA : OpR X (binaryOp .Mult) rMulI := opI fun _ _ _ _ _ _ _ hc q => PyProof.Rows.mul_int q (cm_ok hc)
def rTimes : R2 := fun x y H Q => rMulI x y H Q ∨ rRep x y H Q
theorem op_times : OpR X (binaryOp .Mult) rTimes := op_mulA.or op_rep
def rFdiv : R2 := rI CF fun i j => .int (i.fdiv j)
theorem op_fdivA : OpR X (binaryOp .FloorDiv) rFdiv := opI fun _ j _ _ _ _ _ hc q => PyProof.Rows.floordiv_int hc.nz q (.inl (PyProof.noPylong_of_log2 hc.sm))
def rMod : R2 := rI (fun _ j => j ≠ 0) fun i j => .int (i.fmod j)
theorem op_modA : OpR X (binaryOp .Mod) rMod := op_modN
def rMinus : R2 := rI0 fun i j => .int (i - j)
theorem op_minus : OpR X (binaryOp .Sub) rMinus := op_sub
def rPow : R2 := rI CPow fun i j => .int (i ^ j.toNat)
theorem op_powA : OpR X (binaryOp .Pow) rPow := op_pow
def rLt : R2 := rI0 fun i j => .bl (decide (i < j))
def rLe : R2 := rI0 fun i j => .bl (decide (i ≤ j))
def rGt : R2 := rI0 fun i j => .bl (decide (j < i))
def rGe : R2 := rI0 fun i j => .bl (decide (j ≤ i))
theorem op_ltA : OpR X (compareOp .Lt) rLt := op_lt
theorem op_leA : OpR X (compareOp .LtE) rLe := op_le
theorem op_gtA : OpR X (compareOp .Gt) rGt := op_gt
theorem op_geA : OpR X (compareOp .GtE) rGe := op_ge
def rNeg : V → Hp → VK → Prop := rU fun i => .int (-i)
theorem un_negA : UnR X (unaryOp .USub) rNeg := un_neg
def rIsN : R2 := fun x y H Q => y = .non ∧ Q (.bl (decide (x = .non))) H
def rNotN : R2 := fun x y H Q => y = .non ∧ Q (.bl (!decide (x = .non))) H
theorem op_isA : OpR X (compareOp .Is) (fun x y H Q => rIsN x y H Q ∨ ∃ a b : Bool, x = .bl a ∧ y = .bl b ∧ Q (.bl (decide (a = b))) H) := op_isN.or op_is_bl
theorem op_isnotA : OpR X (compareOp .IsNot) (fun x y H Q => rNotN x y H Q ∨ ∃ a b : Bool, x = .bl a ∧ y = .bl b ∧ Q (.bl (!decide (a = b))) H) := op_notN.or op_isnot_bl
def rIs : R2 := fun x y H Q => rIsN x y H Q ∨ ∃ a b : Bool, x = .bl a ∧ y = .bl b ∧ Q (.bl (decide (a = b))) H
def rIsnt : R2 := fun x y H Q => rNotN x y H Q ∨ ∃ a b : Bool, x = .bl a ∧ y = .bl b ∧ Q (.bl (!decide (a = b))) H
theorem op_is : OpR X (compareOp .Is) rIs := op_isA
theorem op_isnt : OpR X (compareOp .IsNot) rIsnt := op_isnotA

theorem o_add : Op2 K (rPlus K) (.d (.int i)) (.d (.int j)) s (.d (.int (i + j))) s := fun M H v w S r1 r2 Q q => .inl (o_I0i (g := fun i j => i + j) M H v w S r1 r2 Q q)
theorem o_addS {a b : Str} (h : a.length + b.length ≤ 16000000) : Op2 K (rPlus K) (.d (.str a)) (.d (.str b)) s (.d (.str (a ++ b))) s := fun M H v w S r1 r2 Q q => by
  cases r1; cases r2
  exact .inr (.inl ⟨a, b, rfl, rfl, Nat.le_trans h (by decide), q.here S (.str _)⟩)
theorem o_cat {ds es : List PyData} (h : ds.length + es.length ≤ 1000000) : Op2N K (rPlus K) (.d (.list ds)) (.d (.list es)) s (ds ++ es) s := fun M H v w S r1 r2 Q q => by
  cases r1 with
  | lst h1 a1 =>
    cases r2 with
    | lst h2 a2 =>
      refine .inr (.inr (.inl ⟨_, _, _, _, rfl, rfl, (hid_some h1).2, (hid_some h2).2, ?_, fun p hp => ?_⟩))
      · rw [a1.len, a2.len]; exact Nat.le_trans h (by decide)
      · exact q p _ hp (hid_new hp) (S.add hp (a1.append a2)) (S.new hp)
theorem o_catT {ds es : List PyData} (h : ds.length + es.length ≤ 1000000) : Op2 K (rPlus K) (.d (.tuple ds)) (.d (.tuple es)) s (.d (.tuple (ds ++ es))) s := fun M H v w S r1 r2 Q q => by
  cases r1 with
  | @tup a xs _ h1 a1 =>
    cases r2 with
    | @tup a' ys _ h2 a2 =>
      refine .inr (.inr (.inr ⟨_, _, _, _, rfl, rfl, same_t hid_same h1, same_t hid_same h2, ?_, fun e => ?_, fun e e' => ?_, fun e e' p hp => ?_⟩))
      · rw [a1.len, a2.len]; exact Nat.le_trans h (by decide)
      · subst e
        cases a1
        exact q.here S (At.tup h2 a2)
      · subst e'
        cases a2
        rw [List.append_nil] at q
        exact q.here S (At.tup h1 a1)
      · refine q _ _ (hid_new hp) (S.new hp) (At.tup (SqT.of ?_) (AtAll.mono (hid_new hp) _ _ (a1.append a2)))
        rw [hid_out (S.free hp)]
        exact upd_same
theorem o_mul (h : CM i j) : Op2 K rTimes (.d (.int i)) (.d (.int j)) s (.d (.int (i * j))) s := fun M H v w S r1 r2 Q q => .inl (o_I (C := CM) (g := fun i j => i * j) h M H v w S r1 r2 Q q)
theorem AtAll.rep {K : Fg} {H : Hp} {vs : List V} {ds : List PyData} (a : AtAll K H vs ds) : ∀ n, AtAll K H (List.replicate n vs).flatten (List.replicate n ds).flatten
  | 0 => .nil
  | n + 1 => by
    rw [List.replicate_succ, List.replicate_succ, List.flatten_cons, List.flatten_cons]
    exact a.append (AtAll.rep a n)
theorem o_rep {ds : List PyData} {n : Nat} (h : ds.length * n ≤ 1000000) (h2 : n ≤ 1000000) : Op2N K rTimes (.d (.list ds)) (.d (.int (n : Int))) s (List.replicate n ds).flatten s := fun M H v w S r1 r2 Q q => by
  cases r1 with
  | lst h1 a1 =>
    cases r2
    refine .inr ⟨_, (n : Int), _, rfl, rfl, (hid_some h1).2, by omega, by omega, ?_, fun p hp => ?_⟩
    · rw [a1.len, Int.toNat_natCast]; exact Nat.le_trans h (by decide)
    · rw [Int.toNat_natCast]
      exact q p _ hp (hid_new hp) (S.add hp (a1.rep n)) (S.new hp)
theorem o_fdiv (h : CF i j) : Op2 K rFdiv (.d (.int i)) (.d (.int j)) s (.d (.int (i.fdiv j))) s := o_I h
theorem o_mod (h : j ≠ 0) : Op2 K rMod (.d (.int i)) (.d (.int j)) s (.d (.int (i.fmod j))) s := o_I (C := fun _ j => j ≠ 0) h
theorem o_minus : Op2 K rMinus (.d (.int i)) (.d (.int j)) s (.d (.int (i - j))) s := o_I0i (g := fun i j => i - j)
theorem o_pow (h : CPow i j) : Op2 K rPow (.d (.int i)) (.d (.int j)) s (.d (.int (i ^ j.toNat))) s := o_I h
theorem o_lt : Op2 K rLt (.d (.int i)) (.d (.int j)) s (.d (.bool (decide (i < j)))) s := o_I0b (g := fun i j => decide (i < j))
theorem o_le : Op2 K rLe (.d (.int i)) (.d (.int j)) s (.d (.bool (decide (i ≤ j)))) s := o_I0b (g := fun i j => decide (i ≤ j))
theorem o_gt : Op2 K rGt (.d (.int i)) (.d (.int j)) s (.d (.bool (decide (j < i)))) s := o_I0b (g := fun i j => decide (j < i))
theorem o_ge : Op2 K rGe (.d (.int i)) (.d (.int j)) s (.d (.bool (decide (j ≤ i)))) s := o_I0b (g := fun i j => decide (j ≤ i))
theorem o_neg : Op1 K rNeg (.d (.int i)) s (.d (.int (-i))) s := o_U (g := fun i => -i)
def isNo : PyData → Bool
  | .none => true
  | _ => false
theorem at_non {H : Hp} {v : V} {d : PyData} (h : At K H v d) : decide (v = .non) = isNo d := by
  cases h <;> rfl
theorem o_isN {d : PyData} : Op2 K rIs (.d d) (.d .none) s (.d (.bool (isNo d))) s := fun M H v w S r1 r2 Q q => by
  cases r2
  refine .inl ⟨rfl, ?_⟩
  rw [at_non r1]
  exact q.here S (.bl _)
theorem o_isntN {d : PyData} : Op2 K rIsnt (.d d) (.d .none) s (.d (.bool (!isNo d))) s := fun M H v w S r1 r2 Q q => by
  cases r2
  refine .inl ⟨rfl, ?_⟩
  rw [at_non r1]
  exact q.here S (.bl _)
theorem o_isB {a b : Bool} : Op2 K rIs (.d (.bool a)) (.d (.bool b)) s (.d (.bool (decide (a = b)))) s := fun M H v w S r1 r2 Q q => by
  cases r1; cases r2
  exact .inr ⟨a, b, rfl, rfl, q.here S (.bl _)⟩
theorem o_isntB {a b : Bool} : Op2 K rIsnt (.d (.bool a)) (.d (.bool b)) s (.d (.bool (!decide (a = b)))) s := fun M H v w S r1 r2 Q q => by
  cases r1; cases r2
  exact .inr ⟨a, b, rfl, rfl, q.here S (.bl _)⟩

/-! ### built-ins -/
def rAbs : List V → Hp → VK → Prop := fun xs H Q => ∃ i, xs = [.int i] ∧ Q (.int (if i < 0 then -i else i)) H
theorem cb_abs : CallR X (.builtin "abs") rAbs := call_abs
theorem o_abs : OpC K rAbs [.d (.int i)] s (.d (.int (if i < 0 then -i else i))) s := fun M H vs S r Q q => by
  cases r with
  | cons h t =>
    cases t
    cases h
    exact ⟨i, rfl, q.here S (.int _)⟩
def rInt : List V → Hp → VK → Prop := fun xs H Q => (∃ i, xs = [.int i] ∧ Q (.int i) H) ∨ ∃ k, xs = [.bl k] ∧ Q (.int (if k then 1 else 0)) H
theorem cb_int : CallR X (.type "int") rInt := call_int1
theorem o_intB : OpC K rInt [.d (.bool b)] s (.d (.int (if b then 1 else 0))) s := fun M H vs S r Q q => by
  cases r with
  | cons h t =>
    cases t
    cases h
    exact .inr ⟨b, rfl, q.here S (.int _)⟩
def rMin2 : List V → Hp → VK → Prop := fun xs H Q => ∃ i j, xs = [.int i, .int j] ∧ Q (.int (if j < i then j else i)) H
theorem cb_min2 (hc : X.calm = true) : CallR X (.builtin "min") rMin2 := call_min2 hc
theorem o_min2 : OpC K rMin2 [.d (.int i), .d (.int j)] s (.d (.int (if j < i then j else i))) s := fun M H vs S r Q q => by
  cases r with
  | cons h t =>
    cases t with
    | cons h2 t =>
      cases t
      cases h; cases h2
      exact ⟨i, j, rfl, q.here S (.int _)⟩
def rMax2' : List V → Hp → VK → Prop := fun xs H Q => ∃ i j, xs = [.int i, .int j] ∧ Q (.int (if j > i then j else i)) H
theorem cb_max2 (hc : X.calm = true) : CallR X (.builtin "max") rMax2' := call_max2 hc
theorem o_max2 : OpC K rMax2' [.d (.int i), .d (.int j)] s (.d (.int (if j > i then j else i))) s := fun M H vs S r Q q => by
  cases r with
  | cons h t =>
    cases t with
    | cons h2 t =>
      cases t
      cases h; cases h2
      exact ⟨i, j, rfl, q.here S (.int _)⟩
def rLen (K : Fg) : List V → Hp → VK → Prop := fun xs H Q => ∃ x n, xs = [x] ∧ LenV K x H n ∧ Q (.int (n : Nat)) H
theorem cb_len : CallR X (.builtin "len") (rLen X.K) := call_len
theorem o_lenL {ds : List PyData} : OpC K (rLen K) [.d (.list ds)] s (.d (.int (ds.length : Nat))) s := fun M H vs S r Q q => by
  cases r with
  | cons h t =>
    cases t
    cases h with
    | lst h a => exact ⟨_, _, rfl, .inl ⟨_, SqL.of (hid_some h).2, rfl⟩, by rw [a.len]; exact q.here S (.int _)⟩
theorem o_lenT {ds : List PyData} : OpC K (rLen K) [.d (.tuple ds)] s (.d (.int (ds.length : Nat))) s := fun M H vs S r Q q => by
  cases r with
  | cons h t =>
    cases t
    cases h with
    | tup h a => exact ⟨_, _, rfl, .inr ⟨_, same_t hid_same h, rfl⟩, by rw [a.len]; exact q.here S (.int _)⟩
theorem o_lenS {w : Str} (hw : w.length ≤ 16000000) : OpC K (rLen K) [.d (.str w)] s (.d (.int (w.length : Nat))) s := fun M H vs S r Q q => by
  cases r with
  | cons h t =>
    cases t
    cases h
    exact ⟨_, _, rfl, ⟨Nat.le_trans hw (by decide), rfl⟩, q.here S (.int _)⟩
theorem o_lenM {n : Nat} {ds : List PyData} (hk : s[n]? = some ds) : OpC K (rLen K) [.loc n] s (.d (.int (ds.length : Nat))) s := fun M H vs S r Q q => by
  cases r with
  | cons h t =>
    cases t
    obtain ⟨p, e1, rfl⟩ := h
    obtain ⟨p', ws, e2, h1, h2⟩ := S.get hk
    rw [e1] at e2; cases e2
    exact ⟨_, _, rfl, .inl ⟨_, SqL.of h1, rfl⟩, by rw [h2.len]; exact q.here S (.int _)⟩
theorem o_lenC {ns : List Int} : OpC K (rLen K) [.scr ns] s (.d (.int (ns.length : Nat))) s := fun M H vs S r Q q => by
  cases r with
  | cons h t =>
    cases t
    obtain ⟨a, rfl, h1⟩ := h
    refine ⟨_, _, rfl, .inl ⟨ns.map V.int, ?_, rfl⟩, by rw [List.length_map]; exact q.here S (.int _)⟩
    rcases h1 with (h1 | ⟨o, h1⟩) | h1
    · exact .inl (.inl (hid_some h1).2)
    · exact .inl (.inr ⟨o, (hid_some h1).2⟩)
    · exact .inr h1
theorem cb_all (hc : X.calm = true) : CallR X (.builtin "all") (rAll X.K) := cr_all hc
theorem o_all {bs : List Bool} : OpC K (rAll K) [.d (.list (bs.map PyData.bool))] s (.d (.bool (bs.all id))) s := fun M H vs S r Q q => by
  cases r with
  | cons h t =>
    cases t
    cases h with
    | lst h a =>
      have e := AtAll.bls a
      subst e
      exact ⟨_, bs, rfl, SqL.of (hid_some h).2, q.here S (.bl _)⟩
theorem o_gcd : OpC K rGcd [.d (.int i), .d (.int j)] s (.d (.int ((Nat.gcd i.natAbs j.natAbs : Nat) : Int))) s := fun M H vs S r Q q => by
  cases r with
  | cons h t =>
    cases t with
    | cons h2 t =>
      cases t
      cases h; cases h2
      exact ⟨i, j, rfl, q.here S (.int _)⟩
/-- list(t), list(xs): a new list -/
def rListOf (K : Fg) : List V → Hp → VK → Prop := fun xs H Q => ∃ p ys, xs = [.ref p] ∧ (SqL K H p ys ∨ SqT K H p ys) ∧ ∀ l, H l = none → Q (.ref l) (upd H l (.lst ys))
theorem cb_list : CallR X (.type "list") (rListOf X.K) := call_list_of
def OpCN (K : Fg) (r : List V → Hp → VK → Prop) (xs : List Dx) (s : Sto) (ds : List PyData) (s' : Sto) : Prop := ∀ M H vs, So K M s H → RXs K M H vs xs → ∀ Q : VK,
  (∀ p H', H p = none → Same (hid M H) (hid M H') → So K (M ++ [p]) (s' ++ [ds]) H' → So K M s' H' → Q (.ref p) H') → r vs H Q
theorem evn_cb {r : List V → Hp → VK → Prop} {ds : List PyData} (ha : Eva K tas ρ s xs s1) (hr : OpCN K r xs s1 ds s2) : EvN K (tCB r tas) ρ s ds s2 := fun M σ H S R Q q =>
  ha M σ H S R _ fun v H1 e1 S1 r1 => hr M H1 v S1 r1 Q fun p H2 hp e2 => q p H2 (by
    cases hq : H p with
    | none => rfl
    | some o =>
      have := hid_some (e1 p o (by rw [hid_out (S1.free hp)]; exact hq))
      rw [hp] at this; cases this.2) (e1.trans e2)
theorem o_listT {ds : List PyData} : OpCN K (rListOf K) [.d (.tuple ds)] s ds s := fun M H vs S r Q q => by
  cases r with
  | cons h t =>
    cases t
    cases h with
    | tup h a => exact ⟨_, _, rfl, .inr (same_t hid_same h), fun p hp => q p _ hp (hid_new hp) (S.add hp a) (S.new hp)⟩
theorem o_listL {ds : List PyData} : OpCN K (rListOf K) [.d (.list ds)] s ds s := fun M H vs S r Q q => by
  cases r with
  | cons h t =>
    cases t
    cases h with
    | lst h a => exact ⟨_, _, rfl, .inl (SqL.of (hid_some h).2), fun p hp => q p _ hp (hid_new hp) (S.add hp a) (S.new hp)⟩
def rTupOf (K : Fg) : List V → Hp → VK → Prop := fun xs H Q => ∃ p ys, xs = [.ref p] ∧ ((SqL K H p ys ∧ ∀ l, H l = none → Q (.ref l) (upd H l (.tup ys))) ∨ (SqT K H p ys ∧ Q (.ref p) H))
theorem cb_tup : CallR X (.type "tuple") (rTupOf X.K) := call_tuple_of
theorem o_tupM {n : Nat} {ds : List PyData} (hk : s[n]? = some ds) : OpC K (rTupOf K) [.loc n] s (.d (.tuple ds)) s := fun M H vs S r Q q => by
  cases r with
  | cons h t =>
    cases t
    obtain ⟨p, e1, rfl⟩ := h
    obtain ⟨p', ws, e2, h1, h2⟩ := S.get hk
    rw [e1] at e2; cases e2
    refine ⟨_, _, rfl, .inl ⟨SqL.of h1, fun l hl => ?_⟩⟩
    refine q _ _ (hid_new hl) (S.new hl) (At.tup (SqT.of ?_) (AtAll.mono (hid_new hl) _ _ h2))
    rw [hid_out (S.free hl)]
    exact upd_same

/-! ### isinstance -/
def tyN : PyData → String
  | .none => "NoneType" | .bool _ => "bool" | .int _ => "int" | .str _ => "str" | .list _ => "list" | .tuple _ => "tuple" | .dict _ => "dict"
theorem at_ty {M : List Addr} {H : Hp} {v : V} {d : PyData} (h : At K (hid M H) v d) : TyX K H v (.type (tyN d)) := by
  cases h with
  | non => exact .base .non
  | bl b => exact .base (.bl b)
  | int i => exact .base (.int i)
  | str x => exact .base (.str x)
  | lst h a => exact .base (.lst (hid_some h).2)
  | tup h a =>
    rcases h with (h | ⟨o, h⟩) | ⟨o, its, n, hk, hc, _⟩
    · exact .base (.tup (hid_some h).2)
    · exact .fTuple (hid_some h).2
    · exact .kTuple hk hc
theorem ev_isi {d : PyData} {T : String} (h : Ev K te ρ s (.d d) s1) (e : kitB (tyN d) T = some b) : Ev K (tCB (rIsi K) (tCons te (tCons (tC (.ty T)) tNil))) ρ s (.d (.bool b)) s1 := fun M σ H S R Q q =>
  h M σ H S R _ fun v H1 e1 S1 r1 => ⟨v, .ty T, _, _, b, rfl, .ty T, at_ty r1, kit_ty e, q _ H1 e1 S1 (.bl b)⟩
theorem ev_isi2 {d : PyData} {T U : String} {b1 b2 : Bool} (h : Ev K te ρ s (.d d) s1) (e1 : kitB (tyN d) T = some b1) (e2 : kitB (tyN d) U = some b2) :
    Ev K (tCB (rIsiT K) (tCons te (tCons (tTup (tCons (tC (.ty T)) (tCons (tC (.ty U)) tNil))) tNil))) ρ s (.d (.bool (b1 || b2))) s1 := fun M σ H S R Q q =>
  h M σ H S R _ fun v H1 f1 S1 r1 => ⟨by show 2 ≤ sizeLine; decide, fun p hp => by
    refine ⟨v, p, _, .type (tyN d), [.type T, .type U], b1 || b2, rfl, upd_same, .cons (.ty T) (.cons (.ty U) .nil), at_ty (M := M) (At.mono (hid_new hp) d v r1), ?_, ?_⟩
    · refine kitAny_cons (kit_ty e1) (fun z => ?_) (fun z => by rw [z]; rfl)
      subst z
      refine kitAny_cons (kit_ty e2) (fun z => ?_) (fun z => by rw [z]; rfl)
      rw [z]
      exact kitAny_nil
    · exact q _ _ (f1.trans (hid_new hp)) (S1.new hp) (.bl _)⟩

/-! ### repr of data -/
def rRepr (K : Fg) : List V → Hp → VK → Prop := fun xs H Q => ∃ x d, xs = [x] ∧ Dp K H x d ∧ PyData.showable d = true ∧ PyData.hasDict d = false ∧ d.depth ≤ 60 ∧ d.shown.length ≤ sizeLine ∧ Q (.str d.shown) H
end
end Pw
namespace Pw
open PySem L2
section
variable {K : Fg} {ρ ρ' : En} {s s1 s2 s3 : Sto} {x y z : Dx} {xs : List Dx} {ta tb te : TE} {tas : TA} {t u : TT} {r r' : R2} {b c : Bool} {i j k : Int} {X : Cx}

/-! ## statements: a frame that began with the store's lists M0 in the heap H0; F: what is kept besides -/
abbrev Kp := List (V × PyData)
structure Rl (K : Fg) (M0 : List Addr) (H0 : Hp) (F : Kp) (M : List Addr) (s : Sto) (ρ : En) (σ : L2.St) (H : Hp) : Prop where
  ext : ∃ N, M = M0 ++ N ∧ ∀ p ∈ N, H0 p = none
  same : Same (hid M0 H0) (hid M0 H)
  so : So K M s H
  re : RE K M H σ ρ
  kp : ∀ q ∈ F, At K (hid M H) q.1 q.2
def W (K : Fg) (M0 : List Addr) (H0 : Hp) (F : Kp) (P : L2.St → Hp → Prop) (ρ : En) (s : Sto) : Prop := ∀ M σ H, Rl K M0 H0 F M s ρ σ H → P σ H
variable {M0 M : List Addr} {H0 H H1 : Hp} {F : Kp} {D : Ends} {σ : L2.St} {P : L2.St → Hp → Prop} {tu tw : TS} {n m : Nat}
theorem Rl.sub (h : Rl K M0 H0 F M s ρ σ H) (e : Same (hid M H) (hid M H1)) : Same (hid M0 H0) (hid M0 H1) := fun a o h1 => by
  obtain ⟨N, hM, hN⟩ := h.ext
  have h2 := h.same a o h1
  obtain ⟨c, h3⟩ := hid_some h2
  obtain ⟨_, h0⟩ := hid_some h1
  have c2 : a ∉ M := fun m => by
    rw [hM] at m
    rcases List.mem_append.mp m with m | m
    · exact c m
    · rw [hN a m] at h0; cases h0
  have h4 := e a o (by rw [hid_out c2]; exact h3)
  rw [hid_out c]
  exact (hid_some h4).2
theorem Rl.step (h : Rl K M0 H0 F M s ρ σ H) (e : Same (hid M H) (hid M H1)) (S : So K M s1 H1) : Rl K M0 H0 F M s1 ρ σ H1 :=
  ⟨h.ext, h.sub e, S, h.re.mono e, fun q hq => At.mono e _ _ (h.kp q hq)⟩
theorem Rl.set {v : V} (h : Rl K M0 H0 F M s ρ σ H) (r : RX K M H v x) : Rl K M0 H0 F M s (ρ.set n (some x)) (σ.set n (some v)) H :=
  ⟨h.ext, h.same, h.so, h.re.set r, h.kp⟩
theorem Rl.old (h : Rl K M0 H0 F M s ρ σ H) {p : Addr} (hp : H p = none) : H0 p = none := by
  cases e : H0 p with
  | none => rfl
  | some o =>
    obtain ⟨N, hM, _⟩ := h.ext
    have c : p ∉ M0 := fun m => h.so.free hp (by rw [hM]; exact List.mem_append_left _ m)
    have := h.same p o (by rw [hid_out c]; exact e)
    rw [(hid_some this).2] at hp
    cases hp
theorem RX.up {M' : List Addr} {H' : Hp} {v : V} (e : Same (hid M H) (hid M' H')) (hM : ∀ (k : Nat) p, M[k]? = some p → M'[k]? = some p) : ∀ {x : Dx}, RX K M H v x → RX K M' H' v x
  | .d d, h => At.mono e d v h
  | .loc _, ⟨p, h1, h2⟩ => ⟨p, hM _ p h1, h2⟩
  | .scr _, ⟨a, h1, h2⟩ => ⟨a, h1, e.seq h2⟩
  | .exc _ _, ⟨a, d, h1, h2, h3⟩ => ⟨a, d, h1, e _ _ h2, h3.up e⟩
theorem get_app {α : Type} {M N : List α} (k : Nat) (p : α) (h : M[k]? = some p) : (M ++ N)[k]? = some p := by
  rw [List.getElem?_append_left (List.getElem?_eq_some_iff.mp h).1]
  exact h
/-- a new list joins -/
theorem Rl.add {p : Addr} {ds : List PyData} (h : Rl K M0 H0 F M s ρ σ H) (hp : H p = none) (e : Same (hid M H) (hid M H1)) (S : So K (M ++ [p]) (s1 ++ [ds]) H1) : Rl K M0 H0 F (M ++ [p]) (s1 ++ [ds]) ρ σ H1 := by
  obtain ⟨N, hM, hN⟩ := h.ext
  have e2 : Same (hid M H) (hid (M ++ [p]) H1) := fun a o h1 => by
    obtain ⟨c, h2⟩ := hid_some h1
    rw [hid_out (by simp [c, ne_of_none h2 hp])]
    exact (hid_some (e a o h1)).2
  refine ⟨⟨N ++ [p], by rw [hM, List.append_assoc], fun q hq => ?_⟩, h.sub e, S, ⟨h.re.len, fun i x hx => ?_⟩, fun q hq => At.mono e2 _ _ (h.kp q hq)⟩
  · rcases List.mem_append.mp hq with hq | hq
    · exact hN q hq
    · simp at hq
      subst hq
      exact h.old hp
  · obtain ⟨v, h1, h2⟩ := h.re.at_ i x hx
    exact ⟨v, h1, h2.up e2 fun k p hk => get_app k p hk⟩

/-- what a def hands back -/
def Okr (K : Fg) (M0 : List Addr) (H0 : Hp) (x : Dx) (s' : Sto) (Q : VK) : Prop := ∀ M v H', (∃ N, M = M0 ++ N) → Same (hid M0 H0) (hid M0 H') → So K M s' H' → RX K M H' v x → Q v H'
/-- .. a new list -/
def OkN (K : Fg) (M0 : List Addr) (H0 : Hp) (ds : List PyData) (s' : Sto) (Q : VK) : Prop := ∀ p H', H0 p = none → Same (hid M0 H0) (hid M0 H') → So K (M0 ++ [p]) (s' ++ [ds]) H' → So K M0 s' H' → Q (.ref p) H'
theorem okr_d {Q : VK} {d : PyData} {t : Sto} (q : Okk K M0 s1 (.d d) H0 Q) (hl : s1.length = M0.length) : Okr K M0 H0 (.d d) (s1 ++ t) Q := fun M v H' ⟨N, hM⟩ e S r => by
  subst hM
  exact q v H' e (S.cut hl) (At.mono (hid_sub fun a m => List.mem_append_left _ m) d v r)
theorem okr_any {Q : VK} (q : Okk K M0 s1 x H0 Q) : ∀ v H', Same (hid M0 H0) (hid M0 H') → So K M0 s1 H' → RX K M0 H' v x → Q v H' := q
theorem w_asg (h : Ev K te ρ s x s1) (k : W K M0 H0 F D.nx (ρ.set n (some x)) s1) : W K M0 H0 F (tAsg te (gName n) D) ρ s := fun M σ H R =>
  h M σ H R.so R.re _ fun v H1 e S r => k M _ H1 ((R.step e S).set r)
theorem w_asgN {ds : List PyData} (h : EvN K te ρ s ds s1) (k : W K M0 H0 F D.nx (ρ.set n (some (.loc s1.length))) (s1 ++ [ds])) : W K M0 H0 F (tAsg te (gName n) D) ρ s := fun M σ H R =>
  h M σ H R.so R.re _ fun p H1 hp e S S2 => k _ _ H1 ((R.add hp e S).set ⟨p, by rw [S2.len]; simp, rfl⟩)
theorem w_ret (h : Ev K te ρ s x s1) (q : Okr K M0 H0 x s1 D.rt) : W K M0 H0 F (tRet te D) ρ s := fun M σ H R =>
  h M σ H R.so R.re _ fun v H1 e S r => q M v H1 (let ⟨N, a, _⟩ := R.ext; ⟨N, a⟩) (R.sub e) S r
theorem w_retN {ds : List PyData} (h : EvN K te ρ s ds s1) (hl : s.length = M0.length) (q : OkN K M0 H0 ds s1 D.rt) : W K M0 H0 F (tRet te D) ρ s := fun M σ H R => by
  obtain ⟨N, hM, hN⟩ := id R.ext
  have e : N = [] := by
    have := R.so.len
    rw [hM, List.length_append, hl] at this
    exact List.eq_nil_of_length_eq_zero (by omega)
  subst e
  rw [List.append_nil] at hM
  subst hM
  exact h _ σ H R.so R.re _ fun p H1 hp e S S2 => q p H1 (R.old hp) (R.sub e) S S2
theorem w_if (h : EvT K t ρ s b s1) (h1 : b = true → W K M0 H0 F (tu D) ρ s1) (h2 : b = false → W K M0 H0 F (tw D) ρ s1) : W K M0 H0 F (tIfS t tu tw D) ρ s := fun M σ H R =>
  h M σ H R.so R.re _ fun H1 e S => by
    cases b with
    | true => exact h1 rfl M σ H1 (R.step e S)
    | false => exact h2 rfl M σ H1 (R.step e S)
theorem w_seq (h : W K M0 H0 F (tu { D with nx := tw D }) ρ s) : W K M0 H0 F (tSeq tu tw D) ρ s := h
theorem w_next (h : W K M0 H0 F D.nx ρ s) : W K M0 H0 F (tNext D) ρ s := h
theorem w_drop (h : Ev K te ρ s x s1) (k : W K M0 H0 F D.nx ρ s1) : W K M0 H0 F (tDrop te D) ρ s := fun M σ H R =>
  h M σ H R.so R.re _ fun v H1 e S r => k M _ H1 (R.step e S)
theorem w_aug {ti : TIp} (h0 : ρ[n]? = some (some x)) (h : Ev K te ρ s y s1) (hr : Op2 K ti x y s1 z s2) (k : W K M0 H0 F D.nx (ρ.set n (some z)) s2) : W K M0 H0 F (tAug n te ti D) ρ s := fun M σ H R => by
  obtain ⟨v, h1, h2⟩ := R.re.at_ n x h0
  exact ⟨v, h1, h M σ H R.so R.re _ fun w H1 e S r => hr M H1 v w S (h2.mono e) r _ fun u H2 e2 S2 r2 => k M _ H2 ((R.step (e.trans e2) S2).set r2)⟩
/-- a, b = e1, e2 (no tuple) -/
theorem w_par (h : Eva K tas ρ s [x, y] s1) (k : W K M0 H0 F D.nx ((ρ.set n (some x)).set m (some y)) s1) : W K M0 H0 F (tPar n m tas D) ρ s := fun M σ H R =>
  h M σ H R.so R.re _ fun vs H1 e S r => by
    cases r with
    | cons h1 r =>
      cases r with
      | cons h2 r =>
        cases r
        exact ⟨_, _, rfl, k M _ H1 (((R.step e S).set h1).set h2)⟩
/-- a, b = t -/
theorem w_tup2 {d1 d2 : PyData} (h : Ev K te ρ s (.d (.tuple [d1, d2])) s1) (k : W K M0 H0 F D.nx ((ρ.set n (some (.d d1))).set m (some (.d d2))) s1) : W K M0 H0 F (tAsg te (gTup K 2 (gCons (gName n) (gCons (gName m) gNil))) D) ρ s := fun M σ H R =>
  h M σ H R.so R.re _ fun v H1 e S r => by
    cases r with
    | tup h1 a =>
      cases a with
      | cons a1 a =>
        cases a with
        | cons a2 a =>
          cases a
          exact ⟨_, _, rfl, same_t hid_same h1, rfl, _, _, rfl, _, _, rfl, rfl, k M _ H1 (((R.step e S).set (x := .d d1) a1).set (x := .d d2) a2)⟩
theorem w_tup3 {o : Nat} {d1 d2 d3 : PyData} (h : Ev K te ρ s (.d (.tuple [d1, d2, d3])) s1) (k : W K M0 H0 F D.nx (((ρ.set n (some (.d d1))).set m (some (.d d2))).set o (some (.d d3))) s1) : W K M0 H0 F (tAsg te (gTup K 3 (gCons (gName n) (gCons (gName m) (gCons (gName o) gNil)))) D) ρ s := fun M σ H R =>
  h M σ H R.so R.re _ fun v H1 e S r => by
    cases r with
    | tup h1 a =>
      cases a with
      | cons a1 a =>
        cases a with
        | cons a2 a =>
          cases a with
          | cons a3 a =>
            cases a
            exact ⟨_, _, rfl, same_t hid_same h1, rfl, _, _, rfl, _, _, rfl, _, _, rfl, rfl, k M _ H1 ((((R.step e S).set (x := .d d1) a1).set (x := .d d2) a2).set (x := .d d3) a3)⟩
/-- l[j] = e, l a list of the store -/
theorem w_setI {tl tj : TE} {d : PyData} {ds : List PyData} {l : Nat} {jn : Nat} (hv : Ev K te ρ s (.d d) s1) (hl : Ev K tl ρ s1 (.loc l) s1) (hj : Ev K tj ρ s1 (.d (.int j)) s1) (hd : s1[l]? = some ds) (hi : ixN ds.length j = some jn)
    (k : W K M0 H0 F D.nx ρ (s1.set l (ds.set jn d))) : W K M0 H0 F (tAsg te (gSub tl tj rSetL) D) ρ s := fun M σ H R =>
  hv M σ H R.so R.re _ fun v H1 e1 S1 r1 => hl M σ H1 S1 (R.re.mono e1) _ fun w H2 e2 S2 r2 => hj M σ H2 S2 (R.re.mono (e1.trans e2)) _ fun w3 H3 e3 S3 r3 => by
    obtain ⟨p, hp, rfl⟩ := r2
    cases r3
    obtain ⟨p', vs, hp', h1, h2⟩ := S3.get hd
    rw [hp] at hp'; cases hp'
    have hm : p ∈ M := List.mem_of_getElem? hp
    refine ⟨p, vs, j, jn, rfl, rfl, h1, by rw [h2.len]; exact hi, ?_⟩
    have e := (e1.trans e2).trans e3
    refine k M σ _ (R.step ?_ (S3.put hp (AtAll.set (At.mono (e2.trans e3) _ _ r1) jn h2)))
    rw [hid_upd hm]
    exact e
/-- l.append(e), l a list of the store -/
theorem w_app {tl : TE} {ta : TA} {d : PyData} {ds : List PyData} {l : Nat} (hl : Ev K tl ρ s (.loc l) s) (hv : Eva K ta ρ s [.d d] s1) (hd : s1[l]? = some ds) (hz : ds.length < 1000000)
    (k : W K M0 H0 F D.nx ρ (s1.set l (ds ++ [d]))) (hs : ∃ ds0, s[l]? = some ds0) : W K M0 H0 F (tDrop (tBM K "list" rAppend tl ta) D) ρ s := fun M σ H R =>
  hl M σ H R.so R.re _ fun w H1 e1 S1 r1 => by
    obtain ⟨p, hp, rfl⟩ := r1
    obtain ⟨ds0, hs⟩ := hs
    obtain ⟨p0, vs0, hp0, g1, _⟩ := S1.get hs
    rw [hp] at hp0; cases hp0
    refine ⟨.inl ⟨rfl, vs0, SqL.of g1⟩, hv M σ H1 S1 (R.re.mono e1) _ fun vs H2 e2 S2 r2 => ?_⟩
    cases r2 with
    | cons a r2 =>
      cases r2
      obtain ⟨p', ws, hp', h1, h2⟩ := S2.get hd
      rw [hp] at hp'; cases hp'
      refine ⟨p, ws, _, rfl, rfl, h1, by rw [h2.len]; exact Nat.lt_of_lt_of_le hz (by decide), ?_⟩
      refine k M σ _ (R.step ?_ (S2.put hp (h2.append (.cons a .nil))))
      rw [hid_upd (List.mem_of_getElem? hp)]
      exact e1.trans e2

/-- less is known -/
theorem w_weak (h : W K M0 H0 F P ρ' s) (hl : ρ'.length = ρ.length) (hw : ∀ (i : Nat) x, ρ'[i]? = some (some x) → ρ[i]? = some (some x)) : W K M0 H0 F P ρ s := fun M σ H R =>
  h M σ H ⟨R.ext, R.same, R.so, ⟨R.re.len.trans hl.symm, fun i x hx => R.re.at_ i x (hw i x hx)⟩, R.kp⟩
def leq : En → En → Bool
  | [], [] => true
  | none :: l, _ :: m => leq l m
  | _, _ => false
/-- the store's last list is no more written: it is data from here on -/
def noLoc (k : Nat) : En → Prop
  | [] => True
  | some (.loc j) :: r => j ≠ k ∧ noLoc k r
  | _ :: r => noLoc k r
theorem noLoc_at {k : Nat} : ∀ {ρ : En}, noLoc k ρ → ∀ (i j : Nat), ρ[i]? = some (some (.loc j)) → j ≠ k
  | some (.loc j) :: r, h, 0, j', e => by
    cases e
    exact h.1
  | some (.loc j) :: r, h, i + 1, j', e => noLoc_at (ρ := r) h.2 i j' e
  | some (.d _) :: r, h, i + 1, j', e => noLoc_at (ρ := r) h i j' e
  | some (.scr _) :: r, h, i + 1, j', e => noLoc_at (ρ := r) h i j' e
  | some (.exc _ _) :: r, h, i + 1, j', e => noLoc_at (ρ := r) h i j' e
  | none :: r, h, i + 1, j', e => noLoc_at (ρ := r) h i j' e
  | some (.d _) :: r, h, 0, j', e => by cases e
  | some (.scr _) :: r, h, 0, j', e => by cases e
  | some (.exc _ _) :: r, h, 0, j', e => by cases e
  | none :: r, h, 0, j', e => by cases e
theorem Rl.cut {p : Addr} {ds : List PyData} (R : Rl K M0 H0 F (M ++ [p]) (s ++ [ds]) ρ σ H) (hM : M0.length ≤ M.length) (hρ : noLoc M.length ρ) : Rl K M0 H0 F M s ρ σ H := by
  obtain ⟨N, e, hN⟩ := R.ext
  have hsl : s.length = M.length := by
    have := R.so.len
    simp at this
    exact this
  have hNe : ∃ N', M = M0 ++ N' ∧ ∀ p ∈ N', H0 p = none := by
    have e1 : M = (M0 ++ N).dropLast := by rw [← e, List.dropLast_concat]
    have n0 : N ≠ [] := fun z => by
      subst z
      have := congrArg List.length e
      simp at this
      omega
    refine ⟨N.dropLast, by rw [e1, List.dropLast_append_of_ne_nil n0], fun q hq => hN q (List.dropLast_subset N hq)⟩
  have sub : Same (hid (M ++ [p]) H) (hid M H) := hid_sub fun a m => List.mem_append_left _ m
  refine ⟨hNe, R.same, R.so.cut hsl, ⟨R.re.len, fun i x hx => ?_⟩, fun q hq => At.mono sub _ _ (R.kp q hq)⟩
  obtain ⟨v, h1, h2⟩ := R.re.at_ i x hx
  refine ⟨v, h1, ?_⟩
  cases x with
  | d d => exact At.mono sub d v h2
  | scr ns => obtain ⟨a, h3, h4⟩ := h2; exact ⟨a, h3, sub.seq h4⟩
  | exc cls fo => obtain ⟨a, d, h3, h4, h5⟩ := h2; exact ⟨a, d, h3, sub _ _ h4, h5.up sub⟩
  | loc k =>
    obtain ⟨q, h3, h4⟩ := h2
    refine ⟨q, ?_, h4⟩
    have ne := noLoc_at hρ i k hx
    have hk := (List.getElem?_eq_some_iff.mp h3).1
    simp at hk
    rw [List.getElem?_append_left (by omega)] at h3
    exact h3
theorem w_cut {ds : List PyData} (k : W K M0 H0 F P ρ' s) (hM : M0.length ≤ s.length) (hρ : noLoc s.length ρ') (hl : ρ'.length = ρ.length) (hw : ∀ (i : Nat) x, ρ'[i]? = some (some x) → ρ[i]? = some (some x)) : W K M0 H0 F P ρ (s ++ [ds]) := w_weak (fun M σ H R => by
  have hl := R.so.len
  simp at hl
  have hne : M ≠ [] := fun z => by subst z; simp at hl
  obtain ⟨M', p, rfl⟩ : ∃ M' p, M = M' ++ [p] := ⟨M.dropLast, M.getLast hne, (List.dropLast_concat_getLast hne).symm⟩
  simp at hl
  exact k M' σ H (R.cut (by omega) (by rw [← hl]; exact hρ))) hl hw
theorem w_freeze {ds : List PyData} (hn : ρ[n]? = some (some (.loc s.length))) (k : W K M0 H0 F P (ρ.set n (some (.d (.list ds)))) s) (hM : M0.length ≤ s.length) (hρ : noLoc s.length (ρ.set n (some (.d (.list ds))))) : W K M0 H0 F P ρ (s ++ [ds]) := fun M σ H R => by
  have hl := R.so.len
  simp at hl
  have hne : M ≠ [] := fun z => by subst z; simp at hl
  obtain ⟨M', p, rfl⟩ : ∃ M' p, M = M' ++ [p] := ⟨M.dropLast, M.getLast hne, (List.dropLast_concat_getLast hne).symm⟩
  simp at hl
  obtain ⟨v, h1, q, h2, rfl⟩ := R.re.at_ n _ hn
  have hq : q = p := by
    rw [hl] at h2
    simp at h2
    exact h2.symm
  subst hq
  obtain ⟨vs, g1, g2⟩ := R.so.at_ M'.length q ds (by simp) (by rw [← hl]; simp)
  -- ρ with the slot forgotten, then set anew
  have R0 : Rl K M0 H0 F (M' ++ [q]) (s ++ [ds]) (ρ.set n none) σ H := ⟨R.ext, R.same, R.so, ⟨by simpa using R.re.len, fun i x hx => by
    by_cases c : i = n
    · subst c
      by_cases hj : i < ρ.length
      · rw [List.getElem?_set_self hj] at hx; cases hx
      · rw [List.getElem?_eq_none (by simpa using hj)] at hx; cases hx
    · rw [List.getElem?_set_ne (Ne.symm c)] at hx
      exact R.re.at_ i x hx⟩, R.kp⟩
  have nl : ∀ {l : En} {n : Nat} {d : PyData} {k : Nat}, noLoc k (l.set n (some (.d d))) → noLoc k (l.set n none) := fun {l} => by
    induction l with
    | nil => intro n d k h; exact h
    | cons a l ih =>
      intro n d k h
      cases n with
      | zero => exact h
      | succ n =>
        cases a with
        | none => exact ih (n := n) (d := d) h
        | some a =>
          cases a with
          | d _ => exact ih (n := n) (d := d) h
          | scr _ => exact ih (n := n) (d := d) h
          | exc _ _ => exact ih (n := n) (d := d) h
          | loc j => exact ⟨h.1, ih (n := n) (d := d) h.2⟩
  have R1 := R0.cut (by omega) (by rw [← hl]; exact nl hρ)
  have hqM : q ∉ M' := fun m => (List.nodup_append.mp R.so.nd).2.2 q m q (by simp) rfl
  have a : RX K M' H (.ref q) (.d (.list ds)) := .lst (by rw [hid_out hqM]; exact g1) (AtAll.mono (hid_sub fun a m => List.mem_append_left _ m) ds vs g2)
  have R2 := R1.set (n := n) a
  rw [List.set_set] at R2
  have es : σ.set n (some (.ref q)) = σ := by
    refine List.ext_getElem? fun i => ?_
    by_cases c : n = i
    · subst c
      rw [List.getElem?_set_self (List.getElem?_eq_some_iff.mp h1).1, h1]
    · rw [List.getElem?_set_ne c]
  rw [es] at R2
  exact k M' σ H R2

/-! ### loops -/
theorem Rl.more {v : V} {d : PyData} (R : Rl K M0 H0 F M s ρ σ H) (r : At K (hid M H) v d) : Rl K M0 H0 ((v, d) :: F) M s ρ σ H := ⟨R.ext, R.same, R.so, R.re, fun q hq => by
  rcases List.mem_cons.mp hq with rfl | hq
  · exact r
  · exact R.kp q hq⟩
theorem Rl.less {q : V × PyData} (R : Rl K M0 H0 (q :: F) M s ρ σ H) : Rl K M0 H0 F M s ρ σ H := ⟨R.ext, R.same, R.so, R.re, fun p hp => R.kp p (List.mem_cons_of_mem _ hp)⟩
theorem w_less {q : V × PyData} (h : W K M0 H0 F P ρ s) : W K M0 H0 (q :: F) P ρ s := fun M σ H R => h M σ H R.less
/-- for x in xs, xs data -/
theorem w_forL {tl : TE} {ds : List PyData} {tb : TS} (h : Ev K tl ρ s (.d (.list ds)) s1) (I : Nat → En → Sto → Prop) (h0 : I 0 ρ s1)
    (hs : ∀ v (i : Nat) d ρ' s' (N : L2.St → Hp → Prop), ds[i]? = some d → I i ρ' s' → (∀ ρ2 s2, I (i + 1) ρ2 s2 → W K M0 H0 ((v, .list ds) :: F) N ρ2 s2) → W K M0 H0 ((v, .list ds) :: F) (tb { D with nx := N, ct := N, bk := D.nx }) (ρ'.set n (some (.d d))) s')
    (hd : ∀ ρ' s', I ds.length ρ' s' → W K M0 H0 F D.nx ρ' s') : W K M0 H0 F (tFor (iList K tl) (gName n) tb D) ρ s := fun M σ H R => by
  refine h M σ H R.so R.re _ fun v H1 e S r => ?_
  replace R := (R.step e S).more r
  clear r S e
  generalize H1 = H at R ⊢
  have hv := R.kp _ (List.mem_cons_self ..)
  have hv0 : At K (hid M H) v (.list ds) := hv
  cases hv0 with
  | @lst a xs _ ha hxs =>
    refine ⟨a, rfl, ⟨xs, SqL.of (hid_some ha).2⟩, fun i m σ H => m = ds.length - i ∧ i ≤ ds.length ∧ ∃ M s ρ, Rl K M0 H0 ((.ref a, .list ds) :: F) M s ρ σ H ∧ I i ρ s, ⟨_, rfl, Nat.zero_le _, M, _, _, R, h0⟩, ?_⟩
    rintro i m σ H ⟨rfl, hi, M, s, ρ, R, hI⟩
    have hv := R.kp _ (List.mem_cons_self ..)
    have hv0 : At K (hid M H) (.ref a) (.list ds) := hv
    cases hv0 with
    | @lst _ xs _ ha hxs =>
      have hS : SqL K H a xs := SqL.of (hid_some ha).2
      by_cases c : i < ds.length
      · obtain ⟨w, hw, rw_⟩ := hxs.get (List.getElem?_eq_getElem c)
        refine .inr ⟨⟨xs, w, hS, hw⟩, fun σ H => ∃ M s ρ, Rl K M0 H0 ((.ref a, .list ds) :: F) M s ρ σ H ∧ I (i + 1) ρ s, fun σ' H' ⟨M, s, ρ, R, hI⟩ => ⟨ds.length - (i + 1), by omega, rfl, by omega, M, s, ρ, R, hI⟩, fun x H' ⟨e, hx⟩ => ?_⟩
        subst e
        have ex : x = w := Option.some.inj ((hx xs hS).symm.trans hw)
        subst ex
        exact hs (.ref a) i _ ρ s _ (List.getElem?_eq_getElem c) hI (fun ρ2 s2 h2 M σ H R => ⟨M, s2, ρ2, R, h2⟩) M _ _ (R.set (x := .d ds[i]) rw_)
      · have e : i = ds.length := by omega
        subst e
        exact .inl ⟨⟨xs, hS, by rw [hxs.len]; exact Nat.le_refl _⟩, hd ρ s hI M σ H R.less⟩
/-- for k in range(n) -/
theorem w_forR {ta : TA} {tb : TS} {c : Nat} (h : Eva K ta ρ s [.d (.int (c : Int))] s1) (hc : c < 2 ^ 60) (I : Nat → En → Sto → Prop) (h0 : I 0 ρ s1)
    (hs : ∀ (i : Nat) ρ' s' (N : L2.St → Hp → Prop), i < c → I i ρ' s' → (∀ ρ2 s2, I (i + 1) ρ2 s2 → W K M0 H0 F N ρ2 s2) → W K M0 H0 F (tb { D with nx := N, ct := N, bk := D.nx }) (ρ'.set n (some (.d (.int (i : Int))))) s')
    (hd : ∀ ρ' s', I c ρ' s' → W K M0 H0 F D.nx ρ' s') : W K M0 H0 F (tFor (iRng1 ta) (gName n) tb D) ρ s := fun M σ H R => by
  refine h M σ H R.so R.re _ fun vs H1 e S r => ?_
  cases r with
  | cons r1 r =>
    cases r
    cases r1
    refine ⟨(c : Int), rfl, by omega, by omega, ?_⟩
    rw [Int.toNat_natCast]
    refine ⟨fun i m σ H => m = c - i ∧ i ≤ c ∧ ∃ M s ρ, Rl K M0 H0 F M s ρ σ H ∧ I i ρ s, ⟨_, rfl, Nat.zero_le _, M, _, _, R.step e S, h0⟩, ?_⟩
    rintro i m σ H ⟨rfl, hi, M, s, ρ, R, hI⟩
    by_cases cc : i < c
    · refine .inr ⟨cc, fun σ H => ∃ M s ρ, Rl K M0 H0 F M s ρ σ H ∧ I (i + 1) ρ s, fun σ' H' ⟨M, s, ρ, R, hI⟩ => ⟨c - (i + 1), by omega, rfl, by omega, M, s, ρ, R, hI⟩, fun x H' ⟨e, hx⟩ => ?_⟩
      subst e
      subst hx
      rw [Int.zero_add]
      exact hs i ρ s _ cc hI (fun ρ2 s2 h2 M σ H R => ⟨M, s2, ρ2, R, h2⟩) M _ _ (R.set (x := .d (.int (i : Int))) (.int _))
    · have e : i = c := by omega
      subst e
      exact .inl ⟨Nat.le_refl _, hd ρ s hI M σ H R⟩
theorem w_while {tc : TT} {tb : TS} (I : Nat → En → Sto → Prop) (h0 : ∃ m, I m ρ s)
    (hs : ∀ m ρ' s', I m ρ' s' → ∃ b s2, EvT K tc ρ' s' b s2 ∧ (b = true → ∀ N : L2.St → Hp → Prop, (∀ m' ρ2 s3, m' < m → I m' ρ2 s3 → W K M0 H0 F N ρ2 s3) → W K M0 H0 F (tb { D with nx := N, ct := N, bk := D.nx }) ρ' s2) ∧ (b = false → W K M0 H0 F D.nx ρ' s2)) :
    W K M0 H0 F (tWhile tc tb D) ρ s := fun M σ H R => by
  obtain ⟨m, hm⟩ := h0
  refine ⟨fun m σ H => ∃ M s ρ, Rl K M0 H0 F M s ρ σ H ∧ I m ρ s, ⟨m, M, s, ρ, R, hm⟩, ?_⟩
  rintro m σ H ⟨M, s, ρ, R, hI⟩
  obtain ⟨b, s2, hT, h1, h2⟩ := hs m ρ s hI
  refine hT M σ H R.so R.re _ fun H1 e S => ?_
  cases b with
  | true => exact ⟨fun σ H => ∃ m', m' < m ∧ ∃ M s ρ, Rl K M0 H0 F M s ρ σ H ∧ I m' ρ s, fun σ' H' h => h, h1 rfl _ (fun m' ρ2 s3 hlt h3 M σ H R => ⟨m', hlt, M, s3, ρ2, R, h3⟩) M σ H1 (R.step e S)⟩
  | false => exact h2 rfl M σ H1 (R.step e S)
end
end Pw
namespace Pw
open PySem L2
section
variable {K : Fg} {ρ ρ' : En} {s s1 s2 s3 : Sto} {x y z : Dx} {xs ys zs : List Dx} {ta tb te : TE} {tas tks : TA} {t u : TT} {r r' : R2} {b c : Bool} {i j k : Int} {X : Cx} {n m : Nat}

/-! ## calls of defs -/
abbrev Gr := List Dx → Sto → Dx → Sto → Prop
abbrev GrN := List Dx → Sto → List PyData → Sto → Prop
def spF (K : Fg) (R : Gr) : Sp := fun vs H Q _ => ∃ M xs s x s', R xs s x s' ∧ So K M s H ∧ RXs K M H vs xs ∧ Okk K M s' x H Q
def spN (K : Fg) (R : GrN) : Sp := fun vs H Q _ => ∃ M xs s ds s', R xs s ds s' ∧ So K M s H ∧ RXs K M H vs xs ∧
  ∀ p H', H p = none → Same (hid M H) (hid M H') → So K (M ++ [p]) (s' ++ [ds]) H' → So K M s' H' → Q (.ref p) H'
theorem RXs.len {M : List Addr} {H : Hp} : ∀ {vs : List V} {xs : List Dx}, RXs K M H vs xs → vs.length = xs.length
  | _, _, .nil => rfl
  | _, _, .cons _ t => congrArg Nat.succ t.len
theorem RXs.append {M : List Addr} {H : Hp} : ∀ {vs ws : List V} {xs ys : List Dx}, RXs K M H vs xs → RXs K M H ws ys → RXs K M H (vs ++ ws) (xs ++ ys)
  | _, _, _, _, .nil, s => s
  | _, _, _, _, .cons h t, s => .cons h (t.append s)
theorem spF_len {R : Gr} {l : Nat} (h : ∀ xs s x s', R xs s x s' → xs.length = l) : ∀ vs H Q E, spF K R vs H Q E → vs.length = l := fun vs H Q E ⟨_, _, _, _, _, hR, _, hr, _⟩ => hr.len.trans (h _ _ _ _ hR)
theorem spN_len {R : GrN} {l : Nat} (h : ∀ xs s x s', R xs s x s' → xs.length = l) : ∀ vs H Q E, spN K R vs H Q E → vs.length = l := fun vs H Q E ⟨_, _, _, _, _, hR, _, hr, _⟩ => hr.len.trans (h _ _ _ _ hR)
theorem ev_call {R : Gr} {E : XK} (ha : Eva K tas ρ s xs s1) (hR : R xs s1 z s2) : Ev K (tCall (spF K R) [] E tas) ρ s z s2 := fun M σ H S Re Q q =>
  ha M σ H S Re _ fun vs H1 e1 S1 r1 => ⟨M, xs, s1, z, s2, hR, S1, by rw [List.append_nil]; exact r1, q.step e1⟩
/-- .. with a default -/
theorem ev_callD {R : Gr} {E : XK} {dvs : List V} (ha : Eva K tas ρ s xs s1) (hd : ∀ M H, RXs K M H dvs ys) (hR : R (xs ++ ys) s1 z s2) : Ev K (tCall (spF K R) dvs E tas) ρ s z s2 := fun M σ H S Re Q q =>
  ha M σ H S Re _ fun vs H1 e1 S1 r1 => ⟨M, _, s1, z, s2, hR, S1, r1.append (hd M H1), q.step e1⟩
theorem evn_call {R : GrN} {E : XK} {ds : List PyData} (ha : Eva K tas ρ s xs s1) (hR : R xs s1 ds s2) : EvN K (tCall (spN K R) [] E tas) ρ s ds s2 := fun M σ H S Re Q q =>
  ha M σ H S Re _ fun vs H1 e1 S1 r1 => ⟨M, xs, s1, ds, s2, hR, S1, by rw [List.append_nil]; exact r1, fun p H2 hp e2 => q p H2 (by
    cases hq : H p with
    | none => rfl
    | some o =>
      have := hid_some (e1 p o (by rw [hid_out (S1.free hp)]; exact hq))
      rw [hp] at this; cases this.2) (e1.trans e2)⟩
/-- f(k = v, ..) by keywords alone -/
theorem ev_callK {R : Gr} {E : XK} {gV : List V → List V → List V} {l : Nat} (hk : Eva K tks ρ s ys s1) (hl : ys.length = l) (hg : ∀ M H zs, RXs K M H zs ys → RXs K M H (gV [] zs) xs) (hR : R xs s1 z s2) :
    Ev K (tCallN 0 l (spF K R) gV E tNil tks) ρ s z s2 := fun M σ H S Re Q q =>
  hk M σ H S Re _ fun zs H1 e1 S1 r1 => ⟨rfl, r1.len.trans hl, M, xs, s1, z, s2, hR, S1, hg M H1 zs r1, q.step e1⟩
section
variable {CX : CXT} {l kk : Nat} {f : Addr} {fd : FuncData} {ps ks : List Str} {sp : Sp} {E : XK} {fx : Str} {p pos : Pos} {kws : List Keyword} {tk : TA} {g : List Value → List Value → List Value} {gV : List V → List V → List V}
theorem pe_kw (G : FnOk X.prog X.w X.K X.mg X.base CX kk f fd ps sp) (hr : Room kk X.A) (hg : Gl X fx) (hm : X.mg fx = some (.ref f)) (hk : PySem.W.keepIn X.K (.ref f) = true) (hb : KBn X.K fd ps 0 ks g gV) (hx : Passes CX X E) (hkw : PK X kws tk)
    (hall : (backToKw pos (keywordEach kws X.env)).all (·.1.isSome) = true := by rfl)
    (hks : (backToKw pos (keywordEach kws X.env)).filterMap (·.1) = ks := by rfl)
    (hdb : (fx == ("__debug__" : Str)) = false := by decide)
    (hpl : ((backTo pos (starEach [] X.env)).any (·.1) || (backToKw pos (keywordEach kws X.env)).any (·.1.isNone)) = false := by rfl) :
    PE X (.Call (.Name fx p) [] kws pos) (tCallN 0 ks.length sp gV E tNil tk) := ⟨fun pins s σ H Q I h => by
  refine wpAny_Call_Name_kw (ld_glob I hg hm ?_ hdb)
  refine PySem.W.callWith_KW0 (h₀ := X.base) I.ok.mod.kin hk hall ?_ hpl
  refine thn (hkw.run pos pins s σ H _ I h) fun ws s2 ⟨zs, H2, I2, rz, l1, l2, q2⟩ => ⟨I2.kIn, ?_⟩
  rw [hks]
  exact run_fnN G hr hb hx I2 (us := []) (vs := []) .nil rz rfl l2 q2⟩
end
/-- a def without defaults, called by keywords alone -/
theorem kb_of {qual nm : Str} {st : Stmt} {f : Addr} {fd : FuncData} {ps ks : List Str} {g : {α : Type} → List α → List α} (G : Fun K nm qual st f fd)
    (hrel : ∀ {zs : List V} {ws : List Value}, zs.length = ks.length → Vals zs ws → Vals (g zs) (g ws))
    (h : ∀ (kV doc pm : Value) (an : Option Addr) (cdv ct : Value) (ws : List Value), ws.length = ks.length → bindArgs (PySem.W.fnOf nm qual (defArgs st) (defBody st) (defScope st) .none kV doc pm an cdv ct) ⟨[], ks.zip ws⟩ = pure (ps.zip (g ws)))
    (hd : ∀ {zs : List V} {ws : List Value}, zs.length ≠ ks.length → Vals zs ws → Vals (g zs) (g ws)) : KBn K fd ps 0 ks (fun _ ws => g ws) (fun _ zs => g zs) := by
  obtain ⟨oc, od, kV, doc, pm, an, cdv, ct, osl, rfl, lk, hcd⟩ := G.ex
  refine ⟨fun s us ws X l1 l2 => ?_, fun {vs us zs ws} _ r => ?_⟩
  · have e : us = [] := List.eq_nil_of_length_eq_zero l1
    subst e
    exact .of_eq (h kV doc pm an cdv ct ws l2)
  · by_cases c : zs.length = ks.length
    · exact hrel c r
    · exact hd c r

/-! ## comprehensions -/
theorem lc_any {J : It} {N : Nat} {g : TG} {tt : TT} {te : TE} {vs : List Nat} {σ : L2.St} {H1 : Hp} {A : Addr} {Qd : Hp → Prop} (Pv : Nat → Hp → Prop) (h0 : Pv 0 (upd H1 A (.lst [])))
    (hgo : ∀ i H, i < N → Pv i H → J.go i H) (hst : ∀ H, Pv N H → J.stop N H)
    (hs : ∀ i x H H', i < N → Pv i H → J.yld i H x H' → g x (wipe σ vs) H' fun σ2 H2 => wipe σ2 vs = wipe σ vs ∧ tt σ2 H2 fun b H3 =>
      if b = true then te σ2 H3 fun y H4 => ∃ acc, H4 A = some (.lst acc) ∧ acc.length < sizeLine ∧ Pv (i + 1) (upd H4 A (.lst (acc ++ [y]))) else Pv (i + 1) H3) (hd : ∀ H, Pv N H → Qd H) :
    ∃ Wf : Nat → Nat → Hp → Prop, (∃ m, Wf 0 m (upd H1 A (.lst []))) ∧ ∀ i m H, Wf i m H →
      (J.stop i H ∧ Qd H) ∨ (J.go i H ∧ ∃ Nx : Hp → Prop, (∀ H', Nx H' → ∃ m', m' < m ∧ Wf (i + 1) m' H') ∧ ∀ x H', J.yld i H x H' → g x (wipe σ vs) H' fun σ2 H2 => wipe σ2 vs = wipe σ vs ∧ tt σ2 H2 fun b H3 =>
        if b = true then te σ2 H3 fun y H4 => ∃ acc, H4 A = some (.lst acc) ∧ acc.length < sizeLine ∧ Nx (upd H4 A (.lst (acc ++ [y]))) else Nx H3) := by
  refine ⟨fun i m H => m = N - i ∧ i ≤ N ∧ Pv i H, ⟨N, by simp, Nat.zero_le _, h0⟩, ?_⟩
  rintro i m H ⟨rfl, hi, hp⟩
  by_cases c : i < N
  · exact .inr ⟨hgo i H c hp, Pv (i + 1), fun H' q => ⟨N - (i + 1), by omega, rfl, c, q⟩, fun x H' y => hs i x H H' c hp y⟩
  · have e : i = N := by omega
    subst e
    exact .inl ⟨hst H hp, hd H hp⟩
/-- what holds between two items: the new list at A stands behind the store -/
structure Lc (K : Fg) (M : List Addr) (H1 : Hp) (S : Nat → Sto) (es : List PyData) (A : Addr) (σ : L2.St) (ρ : En) (src : List (V × PyData)) (i : Nat) (H : Hp) : Prop where
  so : So K (M ++ [A]) (S i ++ [es.take i]) H
  sm : Same (hid M H1) (hid M H)
  re : RE K (M ++ [A]) H σ ρ
  sr : ∀ q ∈ src, At K (hid (M ++ [A]) H) q.1 q.2
variable {M : List Addr} {H H1 H2 : Hp} {S : Nat → Sto} {es ds : List PyData} {A : Addr} {σ : L2.St} {src : List (V × PyData)} {tl : TE}
theorem Lc.start (hS : So K M (S 0) H1) (hR : RE K M H1 σ ρ) (hs : ∀ q ∈ src, At K (hid M H1) q.1 q.2) (hA : H1 A = none) : Lc K M H1 S es A σ ρ src 0 (upd H1 A (.lst [])) := by
  have e0 : Same (hid M H1) (hid (M ++ [A]) (upd H1 A (.lst []))) := fun a o h => by
    obtain ⟨c, h⟩ := hid_some h
    have ne := ne_of_none h hA
    rw [hid_out (by simp [c, ne]), upd_ne ne]
    exact h
  refine ⟨by rw [List.take_zero]; exact hS.add hA .nil, hid_new hA, ⟨hR.len, fun i x hx => ?_⟩, fun q hq => At.mono e0 _ _ (hs q hq)⟩
  obtain ⟨v, h1, h2⟩ := hR.at_ i x hx
  exact ⟨v, h1, h2.up e0 fun k p hk => get_app k p hk⟩
theorem Lc.item {i : Nat} {e : PyData} {v : V} (L : Lc K M H1 S es A σ ρ src i H) (hA : H1 A = none) (he : es[i]? = some e) (e2 : Same (hid (M ++ [A]) H) (hid (M ++ [A]) H2)) (hS : So K (M ++ [A]) (S (i + 1) ++ [es.take i]) H2) (r : RX K (M ++ [A]) H2 v (.d e)) (hz : es.length ≤ 1000000) :
    ∃ acc, H2 A = some (.lst acc) ∧ acc.length < sizeLine ∧ Lc K M H1 S es A σ ρ src (i + 1) (upd H2 A (.lst (acc ++ [v]))) := by
  have hsl : (S (i + 1)).length = M.length := by
    have := hS.len
    simp at this
    exact this
  have gM : (M ++ [A])[M.length]? = some A := by simp
  obtain ⟨acc, h1, h2⟩ := hS.at_ M.length A (es.take i) gM (by rw [← hsl]; simp)
  have hi : i < es.length := (List.getElem?_eq_some_iff.mp he).1
  refine ⟨acc, h1, ?_, ?_⟩
  · rw [h2.len, List.length_take]
    exact Nat.lt_of_le_of_lt (Nat.le_trans (Nat.min_le_right _ _) hz) (by decide)
  · have hAm : A ∈ M ++ [A] := by simp
    have ht : es.take (i + 1) = es.take i ++ [e] := by rw [List.take_add_one, he]; rfl
    have e3 : hid (M ++ [A]) (upd H2 A (.lst (acc ++ [v]))) = hid (M ++ [A]) H2 := hid_upd hAm
    refine ⟨?_, ?_, ?_, ?_⟩
    · have q := hS.put gM (h2.append (.cons r .nil))
      rw [← hsl, List.set_append_right _ _ (Nat.le_refl _), Nat.sub_self] at q
      rw [ht]
      exact q
    · intro a o h
      obtain ⟨c, h'⟩ := hid_some (L.sm a o h)
      have ne : a ≠ A := ne_of_none (hid_some h).2 hA
      have := e2 a o (by rw [hid_out (by simp [c, ne])]; exact h')
      rw [hid_out c, upd_ne ne]
      exact (hid_some this).2
    · refine L.re.mono ?_
      rw [e3]
      exact e2
    · intro q hq
      rw [e3]
      exact At.mono e2 _ _ (L.sr q hq)
theorem Lc.done {N : Nat} {Q : VK} (L : Lc K M H1 S es A σ ρ src N H) (hA : H1 A = none) (hN : es.length = N) (e0 : Same (hid M H2) (hid M H1)) (hA2 : H2 A = none)
    (q : ∀ p H', H2 p = none → Same (hid M H2) (hid M H') → So K (M ++ [p]) (S N ++ [es]) H' → So K M (S N) H' → Q (.ref p) H') : Q (.ref A) H := by
  have e : es.take N = es := by rw [← hN]; exact List.take_length
  have h := L.so
  rw [e] at h
  have hl := h.len
  simp at hl
  exact q A H hA2 (e0.trans L.sm) h (h.cut hl)
theorem wipe1 {σ : L2.St} {n : Nat} {v : V} : wipe ((wipe σ [n]).set n (some v)) [n] = wipe σ [n] := by
  show ((σ.set n none).set n (some v)).set n none = σ.set n none
  rw [List.set_set, List.set_set]
theorem wipe1s {σ : L2.St} {n : Nat} {v : V} : (wipe σ [n]).set n (some v) = σ.set n (some v) := by
  show (σ.set n none).set n (some v) = _
  rw [List.set_set]
theorem back_none (e1 : Same (hid M H) (hid M H1)) (hS : So K M s H1) (hA : H1 A = none) : H A = none := by
  cases hq : H A with
  | none => rfl
  | some o =>
    have := hid_some (e1 A o (by rw [hid_out (hS.free hA)]; exact hq))
    rw [hA] at this; cases this.2
/-- [e for x in xs], xs a list -/
theorem evn_lcL (h : Ev K tl ρ s (.d (.list ds)) (S 0)) (hl : es.length = ds.length) (hz : es.length ≤ 1000000)
    (he : ∀ (i : Nat) d e, ds[i]? = some d → es[i]? = some e → Ev K te (ρ.set n (some (.d d))) (S i ++ [es.take i]) (.d e) (S (i + 1) ++ [es.take i])) : EvN K (tLc (iList K tl) (gName n) tYes te [n]) ρ s es (S ds.length) := fun M σ H So0 Re Q q => by
  refine h M σ H So0 Re _ fun v H1 e1 S1 r1 => ?_
  have r0 : At K (hid M H1) v (.list ds) := r1
  cases r0 with
  | @lst a vs _ ha hvs =>
    refine ⟨a, rfl, ⟨vs, SqL.of (hid_some ha).2⟩, fun A hA => ?_⟩
    have src : ∀ {i H}, Lc K M H1 S es A σ ρ [(.ref a, .list ds)] i H → ∃ vs, SqL K H a vs ∧ AtAll K (hid (M ++ [A]) H) vs ds := fun {i H} L => by
      have := L.sr _ (List.mem_cons_self ..)
      have h2 : At K (hid (M ++ [A]) H) (.ref a) (.list ds) := this
      cases h2 with
      | lst h3 h4 => exact ⟨_, SqL.of (hid_some h3).2, h4⟩
    refine lc_any (J := Itl K a) (N := ds.length) (Lc K M H1 S es A σ ρ [(.ref a, .list ds)]) (Lc.start S1 (Re.mono e1) (fun q hq => ?_) hA) (fun i H hi L => ?_) (fun H L => ?_) (fun i x H H' hi L hy => ?_) (fun H L => L.done hA hl e1 (back_none e1 S1 hA) q)
    · simp at hq
      subst hq
      exact r1
    · obtain ⟨vs, h1, h2⟩ := src L
      obtain ⟨w, hw, _⟩ := h2.get (List.getElem?_eq_getElem hi)
      exact ⟨vs, w, h1, hw⟩
    · obtain ⟨vs, h1, h2⟩ := src L
      exact ⟨vs, h1, by rw [h2.len]; exact Nat.le_refl _⟩
    · obtain ⟨e, hx⟩ := hy
      subst e
      obtain ⟨vs, h1, h2⟩ := src L
      obtain ⟨w, hw, rw_⟩ := h2.get (List.getElem?_eq_getElem hi)
      have ex : x = w := Option.some.inj ((hx vs h1).symm.trans hw)
      subst ex
      refine ⟨wipe1, ?_⟩
      unfold tYes
      dsimp only
      rw [if_pos rfl, wipe1s]
      have hie : i < es.length := by rw [hl]; exact hi
      refine he i _ _ (List.getElem?_eq_getElem hi) (List.getElem?_eq_getElem hie) (M ++ [A]) _ _ L.so (L.re.set (x := .d _) rw_) _ fun y H4 e4 S4 r4 => ?_
      exact L.item hA (List.getElem?_eq_getElem hie) e4 S4 r4 hz
/-- xs a tuple -/
theorem evn_lcT (h : Ev K tl ρ s (.d (.tuple ds)) (S 0)) (hl : es.length = ds.length) (hz : es.length ≤ 1000000)
    (he : ∀ (i : Nat) d e, ds[i]? = some d → es[i]? = some e → Ev K te (ρ.set n (some (.d d))) (S i ++ [es.take i]) (.d e) (S (i + 1) ++ [es.take i])) : EvN K (tLc (iTup K tl) (gName n) tYes te [n]) ρ s es (S ds.length) := fun M σ H So0 Re Q q => by
  refine h M σ H So0 Re _ fun v H1 e1 S1 r1 => ?_
  have r0 : At K (hid M H1) v (.tuple ds) := r1
  cases r0 with
  | @tup a vs _ ha hvs =>
    refine ⟨a, rfl, ⟨vs, same_t hid_same ha⟩, fun A hA => ?_⟩
    have src : ∀ {i H}, Lc K M H1 S es A σ ρ [(.ref a, .tuple ds)] i H → ∃ vs, SqT K H a vs ∧ AtAll K (hid (M ++ [A]) H) vs ds := fun {i H} L => by
      have := L.sr _ (List.mem_cons_self ..)
      have h2 : At K (hid (M ++ [A]) H) (.ref a) (.tuple ds) := this
      cases h2 with
      | tup h3 h4 => exact ⟨_, same_t hid_same h3, h4⟩
    refine lc_any (J := Itt K a) (N := ds.length) (Lc K M H1 S es A σ ρ [(.ref a, .tuple ds)]) (Lc.start S1 (Re.mono e1) (fun q hq => ?_) hA) (fun i H hi L => ?_) (fun H L => ?_) (fun i x H H' hi L hy => ?_) (fun H L => L.done hA hl e1 (back_none e1 S1 hA) q)
    · simp at hq
      subst hq
      exact r1
    · obtain ⟨vs, h1, h2⟩ := src L
      obtain ⟨w, hw, _⟩ := h2.get (List.getElem?_eq_getElem hi)
      exact ⟨vs, w, h1, hw⟩
    · obtain ⟨vs, h1, h2⟩ := src L
      exact ⟨vs, h1, by rw [h2.len]; exact Nat.le_refl _⟩
    · obtain ⟨e, hx⟩ := hy
      subst e
      obtain ⟨vs, h1, h2⟩ := src L
      obtain ⟨w, hw, rw_⟩ := h2.get (List.getElem?_eq_getElem hi)
      have ex : x = w := Option.some.inj ((hx vs h1).symm.trans hw)
      subst ex
      refine ⟨wipe1, ?_⟩
      unfold tYes
      dsimp only
      rw [if_pos rfl, wipe1s]
      have hie : i < es.length := by rw [hl]; exact hi
      refine he i _ _ (List.getElem?_eq_getElem hi) (List.getElem?_eq_getElem hie) (M ++ [A]) _ _ L.so (L.re.set (x := .d _) rw_) _ fun y H4 e4 S4 r4 => ?_
      exact L.item hA (List.getElem?_eq_getElem hie) e4 S4 r4 hz
theorem wipe2 {σ : L2.St} {n m : Nat} {v w : V} : wipe (((wipe σ [n, m]).set n (some v)).set m (some w)) [n, m] = wipe σ [n, m] := by
  show (((((σ.set m none).set n none).set n (some v)).set m (some w)).set m none).set n none = (σ.set m none).set n none
  refine List.ext_getElem? fun i => ?_
  simp only [List.getElem?_set, List.length_set]
  split <;> split <;> simp_all
theorem wipe2s {σ : L2.St} {n m : Nat} {v w : V} : ((wipe σ [n, m]).set n (some v)).set m (some w) = (σ.set n (some v)).set m (some w) := by
  show ((((σ.set m none).set n none).set n (some v)).set m (some w)) = _
  refine List.ext_getElem? fun i => ?_
  simp only [List.getElem?_set, List.length_set]
  split <;> split <;> simp_all
/-- [e for x, y in zip(xs, ys)]: two lists, or two tuples, of one length -/
theorem evn_lcZ {ta tb : TE} {fs : List PyData} {w : List PyData → PyData} (hw : w = PyData.list ∨ w = PyData.tuple) (h : Eva K (tCons ta (tCons tb tNil)) ρ s [.d (w ds), .d (w fs)] (S 0)) (hf : fs.length = ds.length) (hl : es.length = ds.length) (hz : es.length ≤ 1000000)
    (he : ∀ (i : Nat) d f e, ds[i]? = some d → fs[i]? = some f → es[i]? = some e → Ev K te ((ρ.set n (some (.d d))).set m (some (.d f))) (S i ++ [es.take i]) (.d e) (S (i + 1) ++ [es.take i])) :
    EvN K (tLc (RZ.iZipA K (tCons ta (tCons tb tNil))) (gTup K 2 (gCons (gName n) (gCons (gName m) gNil))) tYes te [n, m]) ρ s es (S ds.length) := fun M σ H So0 Re Q q => by
  unfold tLc RZ.iZipA
  refine h M σ H So0 Re _ fun vs H1 e1 S1 r1 => ?_
  cases r1 with
  | cons ra r1 =>
    cases r1 with
    | cons rb r1 =>
      cases r1
      -- the turn, once the pair is there
      have turn : ∀ {a b A T : Addr} {x y : V} {i : Nat} {H : Hp} {us ws : List V}, H1 A = none → (hi : i < ds.length) → Lc K M H1 S es A σ ρ [(.ref a, w ds), (.ref b, w fs)] i H → H T = none → AtAll K (hid (M ++ [A]) H) us ds → AtAll K (hid (M ++ [A]) H) ws fs → us[i]? = some x → ws[i]? = some y →
          gTup K 2 (gCons (gName n) (gCons (gName m) gNil)) (.ref T) (wipe σ [n, m]) (upd H T (.tup [x, y])) fun σ2 H2 => wipe σ2 [n, m] = wipe σ [n, m] ∧ tYes σ2 H2 fun bb H3 =>
            if bb = true then te σ2 H3 fun y H4 => ∃ acc, H4 A = some (.lst acc) ∧ acc.length < sizeLine ∧ Lc K M H1 S es A σ ρ [(.ref a, w ds), (.ref b, w fs)] (i + 1) (upd H4 A (.lst (acc ++ [y]))) else Lc K M H1 S es A σ ρ [(.ref a, w ds), (.ref b, w fs)] (i + 1) H3 := by
        intro a b A T x y i H us ws hA hi L hT au aw hx hy
        obtain ⟨x', hx', rx⟩ := au.get (List.getElem?_eq_getElem hi)
        have hif : i < fs.length := by rw [hf]; exact hi
        obtain ⟨y', hy', ry⟩ := aw.get (List.getElem?_eq_getElem hif)
        rw [hx] at hx'; cases hx'
        rw [hy] at hy'; cases hy'
        have hie : i < es.length := by rw [hl]; exact hi
        refine ⟨T, [x, y], rfl, SqT.of upd_same, rfl, x, [y], rfl, y, [], rfl, rfl, wipe2, ?_⟩
        unfold tYes
        dsimp only
        rw [if_pos rfl, wipe2s]
        have eT : Same (hid (M ++ [A]) H) (hid (M ++ [A]) (upd H T (.tup [x, y]))) := hid_new hT
        refine he i _ _ _ (List.getElem?_eq_getElem hi) (List.getElem?_eq_getElem hif) (List.getElem?_eq_getElem hie) (M ++ [A]) _ _ (L.so.new hT) (((L.re.mono eT).set (x := .d _) (At.mono eT _ _ rx)).set (x := .d _) (At.mono eT _ _ ry)) _ fun z H4 e4 S4 r4 => ?_
        have L2 : Lc K M H1 S es A σ ρ [(.ref a, w ds), (.ref b, w fs)] i (upd H T (.tup [x, y])) := by
          refine ⟨L.so.new hT, ?_, L.re.mono eT, fun q hq => At.mono eT _ _ (L.sr q hq)⟩
          exact L.sm.trans (hid_new hT)
        exact L2.item hA (List.getElem?_eq_getElem hie) e4 S4 r4 hz
      rcases hw with hw | hw
      · subst hw
        have ra' : At K (hid M H1) _ (.list ds) := ra
        have rb' : At K (hid M H1) _ (.list fs) := rb
        cases ra' with
        | @lst a us _ ha hus =>
          cases rb' with
          | @lst b ws _ hb hws =>
            refine ⟨a, b, us, ws, rfl, .inl ⟨SqL.of (hid_some ha).2, SqL.of (hid_some hb).2, fun A hA => ?_⟩⟩
            have src : ∀ {i H}, Lc K M H1 S es A σ ρ [(.ref a, .list ds), (.ref b, .list fs)] i H → ∃ us ws, SqL K H a us ∧ SqL K H b ws ∧ AtAll K (hid (M ++ [A]) H) us ds ∧ AtAll K (hid (M ++ [A]) H) ws fs := fun {i H} L => by
              have h1 : At K (hid (M ++ [A]) H) (.ref a) (.list ds) := L.sr _ (List.mem_cons_self ..)
              have h2 : At K (hid (M ++ [A]) H) (.ref b) (.list fs) := L.sr (.ref b, .list fs) (by simp)
              cases h1 with
              | lst h3 h4 =>
                cases h2 with
                | lst h5 h6 => exact ⟨_, _, SqL.of (hid_some h3).2, SqL.of (hid_some h5).2, h4, h6⟩
            refine lc_any (J := Itz K a b) (N := ds.length) (Lc K M H1 S es A σ ρ [(.ref a, .list ds), (.ref b, .list fs)]) (Lc.start S1 (Re.mono e1) (fun q hq => ?_) hA) (fun i H hi L => ?_) (fun H L => ?_) (fun i x H H' hi L hy => ?_) (fun H L => L.done hA hl e1 (back_none e1 S1 hA) q)
            · simp at hq
              rcases hq with hq | hq
              · subst hq; exact ra
              · subst hq; exact rb
            · obtain ⟨us, ws, h1, h2, h3, h4⟩ := src L
              obtain ⟨x, hx, _⟩ := h3.get (List.getElem?_eq_getElem hi)
              obtain ⟨y, hy, _⟩ := h4.get (List.getElem?_eq_getElem (show i < fs.length by rw [hf]; exact hi))
              exact ⟨us, ws, x, y, h1, h2, hx, hy⟩
            · obtain ⟨us, ws, h1, h2, h3, h4⟩ := src L
              exact ⟨us, ws, h1, h2, .inl (by rw [h3.len]; exact Nat.le_refl _)⟩
            · obtain ⟨T, x1, y1, rfl, hT, rfl, f1, f2⟩ := hy
              obtain ⟨us, ws, h1, h2, h3, h4⟩ := src L
              exact turn hA hi L hT h3 h4 (f1 us h1) (f2 ws h2)
      · subst hw
        have ra' : At K (hid M H1) _ (.tuple ds) := ra
        have rb' : At K (hid M H1) _ (.tuple fs) := rb
        cases ra' with
        | @tup a us _ ha hus =>
          cases rb' with
          | @tup b ws _ hb hws =>
            refine ⟨a, b, us, ws, rfl, .inr ⟨same_t hid_same ha, same_t hid_same hb, fun A hA => ?_⟩⟩
            have src : ∀ {i H}, Lc K M H1 S es A σ ρ [(.ref a, .tuple ds), (.ref b, .tuple fs)] i H → ∃ us ws, SqT K H a us ∧ SqT K H b ws ∧ AtAll K (hid (M ++ [A]) H) us ds ∧ AtAll K (hid (M ++ [A]) H) ws fs := fun {i H} L => by
              have h1 : At K (hid (M ++ [A]) H) (.ref a) (.tuple ds) := L.sr _ (List.mem_cons_self ..)
              have h2 : At K (hid (M ++ [A]) H) (.ref b) (.tuple fs) := L.sr (.ref b, .tuple fs) (by simp)
              cases h1 with
              | tup h3 h4 =>
                cases h2 with
                | tup h5 h6 => exact ⟨_, _, same_t hid_same h3, same_t hid_same h5, h4, h6⟩
            refine lc_any (J := RZ.ItzT K a b) (N := ds.length) (Lc K M H1 S es A σ ρ [(.ref a, .tuple ds), (.ref b, .tuple fs)]) (Lc.start S1 (Re.mono e1) (fun q hq => ?_) hA) (fun i H hi L => ?_) (fun H L => ?_) (fun i x H H' hi L hy => ?_) (fun H L => L.done hA hl e1 (back_none e1 S1 hA) q)
            · simp at hq
              rcases hq with hq | hq
              · subst hq; exact ra
              · subst hq; exact rb
            · obtain ⟨us, ws, h1, h2, h3, h4⟩ := src L
              obtain ⟨x, hx, _⟩ := h3.get (List.getElem?_eq_getElem hi)
              obtain ⟨y, hy, _⟩ := h4.get (List.getElem?_eq_getElem (show i < fs.length by rw [hf]; exact hi))
              exact ⟨us, ws, x, y, h1, h2, hx, hy⟩
            · obtain ⟨us, ws, h1, h2, h3, h4⟩ := src L
              exact ⟨us, ws, h1, h2, .inl (by rw [h3.len]; exact Nat.le_refl _)⟩
            · obtain ⟨T, x1, y1, rfl, hT, rfl, f1, f2⟩ := hy
              obtain ⟨us, ws, h1, h2, h3, h4⟩ := src L
              exact turn hA hi L hT h3 h4 (f1 us h1) (f2 ws h2)

/-! ## a def's start -/
def rho0 (N : List Str) (xs : List Dx) : En := xs.map some ++ List.replicate (N.length - xs.length) none
theorem re_start {N : List Str} {vs : List V} (r : RXs K M H vs xs) : RE K M H (L2.start N vs) (rho0 N xs) := by
  have hl := r.len
  refine ⟨by unfold L2.start rho0; simp [hl], fun i x hx => ?_⟩
  unfold rho0 at hx
  unfold L2.start
  by_cases c : i < xs.length
  · rw [List.getElem?_append_left (by simpa using c), List.getElem?_map] at hx
    have : ∀ {vs : List V} {xs : List Dx} {i : Nat}, RXs K M H vs xs → (xs[i]?).map some = some (some x) → ∃ v, vs[i]? = some v ∧ RX K M H v x := fun {vs xs i} r => by
      induction r generalizing i with
      | nil => intro h; simp at h
      | cons h t ih =>
        intro hx
        cases i with
        | zero => simp at hx; subst hx; exact ⟨_, rfl, h⟩
        | succ i => exact ih (i := i) (by simpa using hx)
    obtain ⟨v, h1, h2⟩ := this r hx
    exact ⟨v, by rw [List.getElem?_append_left (by simpa using (List.getElem?_eq_some_iff.mp h1).1), List.getElem?_map, h1]; rfl, h2⟩
  · rw [List.getElem?_append_right (by simpa using c), List.getElem?_replicate] at hx
    split at hx <;> cases hx
theorem w_run {N : List Str} {vs : List V} {P : L2.St → Hp → Prop} (hS : So K M s H) (r : RXs K M H vs xs) (h : W K M H [] P (rho0 N xs) s) : P (L2.start N vs) H :=
  h M _ H ⟨⟨[], (List.append_nil M).symm, fun _ h => by cases h⟩, Same.refl _, hS, re_start r, fun _ h => by cases h⟩
end
end Pw
namespace Pw
open PySem L2
/-! ## defs as they are called -/
section
variable {P : Program} {w : World} {K : Fg} {mg : Str → Option Value} {base : Heap} {X : Cx}
/-- a def known by its promise, all its arguments written -/
structure Cb (P : Program) (w : World) (K : Fg) (mg : Str → Option Value) (base : Heap) (x : Str) (lv : Nat) (dvs : List V) (sp : Sp) : Prop where
  ex : ∃ (f : Addr) (fd : FuncData) (ps : List Str) (ds : List Value), mg x = some (.ref f) ∧ PySem.W.keepIn K (.ref f) = true ∧ FnOk P w K mg base CX0 lv f fd ps sp ∧ Binds K fd ps ds ∧ Vals dvs ds
/-- .. by keywords alone -/
structure Ck (P : Program) (w : World) (K : Fg) (mg : Str → Option Value) (base : Heap) (x : Str) (lv : Nat) (ks : List Str) (g : {α : Type} → List α → List α) (sp : Sp) : Prop where
  ex : ∃ (f : Addr) (fd : FuncData) (ps : List Str) (g' : List Value → List Value → List Value), mg x = some (.ref f) ∧ PySem.W.keepIn K (.ref f) = true ∧ FnOk P w K mg base CX0 lv f fd ps sp ∧ KBn K fd ps 0 ks g' (fun _ zs => g zs)
theorem pe_cb {fx : Str} {lv : Nat} {dvs : List V} {sp : Sp} {p pos : Pos} {e : Expr} {es : List Expr} {t : TA} (C : Cb X.prog X.w X.K X.mg X.base fx lv dvs sp) (hr : Room lv X.A) (hg : Gl X fx) (ha : PA X (e :: es) t)
    (hdb : (fx == ("__debug__" : Str)) = false := by decide) (he : starEach (e :: es) X.env = (false, eval e X.env) :: starEach es X.env := by rfl)
    (hpl : (backTo pos (starEach es X.env)).any (·.1) = false := by rfl) : PE X (.Call (.Name fx p) (e :: es) [] pos) (tCall sp dvs E0 t) := by
  obtain ⟨f, fd, ps, ds, h1, h2, h3, h4, h5⟩ := C.ex
  exact pe_call h3 hr hg h1 h2 h4 h5 pass0 ha hdb he hpl
theorem pe_ck {fx : Str} {lv : Nat} {ks : List Str} {g : {α : Type} → List α → List α} {sp : Sp} {p pos : Pos} {kws : List Keyword} {tk : TA} (C : Ck X.prog X.w X.K X.mg X.base fx lv ks g sp) (hr : Room lv X.A) (hg : Gl X fx) (hkw : PK X kws tk)
    (hall : (backToKw pos (keywordEach kws X.env)).all (·.1.isSome) = true := by rfl)
    (hks : (backToKw pos (keywordEach kws X.env)).filterMap (·.1) = ks := by rfl)
    (hdb : (fx == ("__debug__" : Str)) = false := by decide)
    (hpl : ((backTo pos (starEach [] X.env)).any (·.1) || (backToKw pos (keywordEach kws X.env)).any (·.1.isNone)) = false := by rfl) :
    PE X (.Call (.Name fx p) [] kws pos) (tCallN 0 ks.length sp (fun _ zs => g zs) E0 tNil tk) := by
  obtain ⟨f, fd, ps, g', h1, h2, h3, h4⟩ := C.ex
  exact pe_kw h3 hr hg h1 h2 h4 pass0 hkw hall hks hdb hpl
def swap2 {α : Type} : List α → List α
  | [a, b] => [b, a]
  | l => l
def same1 {α : Type} (l : List α) : List α := l
theorem vals_swap2 {zs : List V} {ws : List Value} (h : Vals zs ws) : Vals (swap2 zs) (swap2 ws) := by
  cases h with
  | nil => exact .nil
  | cons h t =>
    cases t with
    | nil => exact .cons h .nil
    | cons h2 t =>
      cases t with
      | nil => exact .cons h2 (.cons h .nil)
      | cons h3 t => exact .cons h (.cons h2 (.cons h3 t))
theorem vals_same1 {zs : List V} {ws : List Value} (h : Vals zs ws) : Vals (same1 zs) (same1 ws) := h
theorem rxs_swap2 {M : List Addr} {H : Hp} {a b : Dx} {zs : List V} (h : RXs K M H zs [a, b]) : RXs K M H (swap2 zs) [b, a] := by
  cases h with
  | cons h t =>
    cases t with
    | cons h2 t =>
      cases t
      exact .cons h2 (.cons h .nil)
theorem rxs_same1 {M : List Addr} {H : Hp} {xs : List Dx} {zs : List V} (h : RXs K M H zs xs) : RXs K M H (same1 zs) xs := h
section
variable {nm qual : Str} {st : Stmt} {f : Addr} {fd : FuncData} {ps ks : List Str} {lv : Nat} {sp : Sp} {g : {α : Type} → List α → List α}
theorem cb_mk (G : Fun K nm qual st f fd) (hm : mg nm = some (.ref f)) (O : FnOk P w K mg base CX0 lv f fd ps sp)
    (h : ∀ (kV doc pm : Value) (an : Option Addr) (cdv ct : Value) (us : List Value), us.length = ps.length → bindArgs (PySem.W.fnOf nm qual (defArgs st) (defBody st) (defScope st) .none kV doc pm an cdv ct) ⟨us, []⟩ = pure (ps.zip us)) : Cb P w K mg base nm lv [] sp :=
  ⟨f, fd, ps, [], hm, G.kp, O, G.binds h, .nil⟩
theorem ck_mk (G : Fun K nm qual st f fd) (hm : mg nm = some (.ref f)) (O : FnOk P w K mg base CX0 lv f fd ps sp) (hrel : ∀ {zs : List V} {ws : List Value}, Vals zs ws → Vals (g zs) (g ws))
    (h : ∀ (kV doc pm : Value) (an : Option Addr) (cdv ct : Value) (ws : List Value), ws.length = ks.length → bindArgs (PySem.W.fnOf nm qual (defArgs st) (defBody st) (defScope st) .none kV doc pm an cdv ct) ⟨[], ks.zip ws⟩ = pure (ps.zip (g ws))) : Ck P w K mg base nm lv ks g sp :=
  ⟨f, fd, ps, _, hm, G.kp, O, kb_of G (fun _ r => hrel r) h (fun _ r => hrel r)⟩
/-- a def with defaults -/
theorem ckD_mk {dvs : List V} (G : FunD K nm qual (defArgs st) (defBody st) (defScope st) dvs [] f fd) (hd : dvs ≠ []) (hm : mg nm = some (.ref f)) (O : FnOk P w K mg base CX0 lv f fd ps sp) (hrel : ∀ {zs : List V} {ws : List Value}, Vals zs ws → Vals (g zs) (g ws))
    (h : ∀ (T : Addr) (kV doc pm : Value) (an : Option Addr) (cdv ct : Value) (ws its : List Value), ws.length = ks.length → its.length = dvs.length →
      ∃ k, bindArgs (PySem.W.fnOf nm qual (defArgs st) (defBody st) (defScope st) (.ref T) kV doc pm an cdv ct) ⟨[], ks.zip ws⟩ = seqItems? (.ref T) >>= k ∧ k (some its.toArray) = pure (ps.zip (g ws))) : Ck P w K mg base nm lv ks g sp := by
  obtain ⟨oc, od, dV, kV, doc, pm, an, cdv, ct, osl, rfl, lk, hcd, hD, hK⟩ := G.ex
  rcases hD with ⟨e, _⟩ | ⟨_, T, o, its, m, rfl, lT, oT, rT⟩
  · exact absurd e hd
  · refine ⟨f, _, ps, fun _ ws => g ws, hm, G.kp, O, ⟨fun s us ws Xs l1 l2 => ?_, fun _ r => hrel r⟩⟩
    have e : us = [] := List.eq_nil_of_length_eq_zero l1
    subst e
    obtain ⟨k, e1, e2⟩ := h T kV doc pm an cdv ct ws its l2 rT.length.symm
    refine BindsTo.of_looks fun M => ?_
    rw [e1]
    exact looks_items Xs lT oT (PySem.W.Looks.of_pure e2)
theorem cbD_mk {dvs : List V} (n j : Nat) (G : FunD K nm qual (defArgs st) (defBody st) (defScope st) dvs [] f fd) (hd : dvs ≠ []) (hn : n + (dvs.length - j) = ps.length) (hm : mg nm = some (.ref f)) (O : FnOk P w K mg base CX0 lv f fd ps sp)
    (h : ∀ (T : Addr) (kV doc pm : Value) (an : Option Addr) (cdv ct : Value) (us its : List Value), us.length = n → its.length = dvs.length →
      ∃ k, bindArgs (PySem.W.fnOf nm qual (defArgs st) (defBody st) (defScope st) (.ref T) kV doc pm an cdv ct) ⟨us, []⟩ = seqItems? (.ref T) >>= k ∧ k (some its.toArray) = pure (ps.zip (us ++ its.drop j))) : Cb P w K mg base nm lv (dvs.drop j) sp := by
  obtain ⟨ds, h1, h2⟩ := G.binds1 n j hd hn h
  exact ⟨f, fd, ps, ds, hm, G.kp, O, h2, h1⟩
end
end

/-! ## the law's own def, run where no repr is under way -/
section
open PySem.W PySem.Spec PyProof.Rows
variable {P : Program} {w : World} {K : Fg} {mg mb : Str → Option Value}
/-- where the script stands -/
def scrH (K : Fg) (a : Addr) (vs : List Value) (ns : List Int) : Hp := match K.lookup a with
  | some _ => fun _ => none
  | none => fun b => if b = a then some (.frz { cls := .type "list", data := .seq vs.toArray } (.lst (ns.map V.int))) else none
theorem scr_sq {a : Addr} {vs : List Value} {ns : List Int} {h : Heap} (KX : K.In h) (ha : h.get? a = some { cls := .type "list", data := .seq vs.toArray }) (rv : Vals (ns.map V.int) vs) (hl : ns.length ≤ sizeLine) : SqL K (scrH K a vs ns) a (ns.map V.int) := by
  unfold scrH
  cases hk : K.lookup a with
  | some o =>
    have e := KX a o hk
    rw [ha] at e
    cases e
    have l := rv.length
    rw [List.length_map] at l
    exact .inr ⟨_, vs.toArray, _, hk, rfl, rfl, rfl, by rw [List.size_toArray, ← l]; exact hl, by simpa using rv⟩
  | none => exact .inl (.inr ⟨_, if_pos rfl⟩)
theorem scr_only {a : Addr} {vs : List Value} {ns : List Int} {b : Addr} {u : HO} (e : scrH K a vs ns b = some u) : b = a ∧ K.lookup a = none ∧ u = .frz { cls := .type "list", data := .seq vs.toArray } (.lst (ns.map V.int)) := by
  unfold scrH at e
  cases hk : K.lookup a with
  | some o => rw [hk] at e; cases e
  | none =>
    rw [hk] at e
    have e' : (if b = a then some (HO.frz { cls := .type "list", data := .seq vs.toArray } (.lst (ns.map V.int))) else none) = some u := e
    by_cases c : b = a
    · rw [if_pos c] at e'
      cases e'
      exact ⟨c, rfl, rfl⟩
    · rw [if_neg c] at e'
      cases e'
theorem law_at {fa a : Addr} {qual : Str} {st : Stmt} {fd : FuncData} {x nm : Str} {N : List Str} {k : Nat} {s₁ : Shared} {vs : List Value} {ns : List Int} (KX : K.In s₁.heap) (hns : s₁.heap.Ns mainGlobals mg) (hb : s₁.heap.Ns builtinsNs mb)
    (hbb : ∀ y : Str, y ≠ "__name__" → mb y = bootBuiltins y) (hlim : s₁.heap.NoLimit) (hgn : s₁.gens = #[]) (ha : s₁.heap.get? a = some { cls := .type "list", data := .seq vs.toArray }) (hi : IntsAre vs ns) (hl : ns.length ≤ sizeLine)
    (hr : Room (k + 1) callerA) (G : Fun K nm qual st fa fd) (S : FnScope N [x] (defScope st)) (hbind : ∀ (s : Shared) (u : Value), BindsTo s fd ⟨[u], []⟩ [(x, u)])
    (hbody : ∀ (base : Heap) (cdv : Value) (s : Shared) (H : Hp), K.In base → base.Ns mainGlobals mg → Room k (callerA.deeper (envOfC qual (defScope st) s.heap.objs.size fa cdv)) → SqL K H a (ns.map V.int) →
      ∃ t, PSs (cxOf CX0 P w K mg base N qual (defScope st) fa cdv callerA [] s H E0).nox (defBody st) t ∧ t { nx := fun _ _ => False, rt := fun v _ => v = .bl true } (L2.start N [.ref a]) H) :
    codeAny (model P w) callerA (.call (.ref fa) ⟨[.ref a], []⟩) (fun r s' => r = .ok (.ret (.bool true)) ∧ OldK s₁.heap s'.heap ∧ s'.os = s₁.os ∧ AllBare s'.gens) s₁ := by
  have rv := vals_ints hi
  obtain ⟨oc, od, kV, doc, pm, an, cdv, ct, osl, rfl, lk, hcd⟩ := G.ex
  let H : Hp := scrH K a vs ns
  have hSq : SqL K H a (ns.map V.int) := scr_sq KX ha rv hl
  have hA : ∀ {b : Addr} {u : HO}, H b = some u → b = a ∧ K.lookup a = none ∧ u = .frz { cls := .type "list", data := .seq vs.toArray } (.lst (ns.map V.int)) := fun e => scr_only e
  have hok : HOk P w H s₁.heap := fun b u e => by
    obtain ⟨e1, _, e2⟩ := hA e
    subst e1 e2
    exact ⟨ha, by rw [List.length_map]; exact hl, vs, _, rv, ha⟩
  have keepH : ∀ {b : Addr} {o : Obj}, s₁.heap.get? b = some o → H b = none → (hidT s₁.heap H).get? b = some o := fun e n => hidT_get e n
  have noDict : ∀ {b : Addr} {o : Obj} {es : Array DictEntry} {ep : Nat}, s₁.heap.get? b = some o → o.data = .dict es ep → H b = none := fun {b o es ep} e d => by
    cases q : H b with
    | none => rfl
    | some u =>
      obtain ⟨e1, _, _⟩ := hA q
      rw [e1, ha] at e
      cases e
      exact nomatch d
  have nsH : ∀ {b : Addr} {m : Str → Option Value}, s₁.heap.Ns b m → (hidT s₁.heap H).Ns b m := fun ⟨o, es, ep, e, d, r⟩ => ⟨o, es, ep, keepH e (noDict e d), d, r⟩
  have hKb : K.In (hidT s₁.heap H) := fun b o e => keepH (KX b o e) (by
    cases q : H b with
    | none => rfl
    | some u =>
      obtain ⟨e1, e2, _⟩ := hA q
      rw [e1, e2] at e
      cases e)
  have hM : Mod K mg (hidT s₁.heap H) := ⟨hKb, nsH hns, ⟨mb, nsH hb, hbb⟩, let ⟨mc, h1, h2⟩ := hlim; ⟨mc, nsH h1, h2⟩⟩
  have e0 : Env0 P w K mg (hidT s₁.heap H) callerA [] s₁ H := ⟨rfl, hM, fun b o e => of_hidT e, Nat.le_of_eq (hidT_size _ _), trivial, fun b z => (by cases (show b ∈ ([] : List Addr) from z)), hok, .of_eq hgn⟩
  have hkind : ∀ y ∈ ([x] : List Str).zip [Value.ref a], (defScope st).names.lookup y.1 = some .local ∨ ((defScope st).names.lookup y.1 = some .cell ∧ ((cellsFrom (s₁.heap.objs.size + 1) (defScope st).names []).lookup y.1).isSome = true) := fun ⟨y, v⟩ hy =>
    (S.par y (List.of_mem_zip hy).1).imp (fun q => q) fun q => ⟨q, PySem.W.cellsFrom_some _ _ _ (.inl q)⟩
  refine codeAny_call_function hr.depth (KX _ _ lk) rfl S.co S.gen rfl (PySem.W.codeRec_of KX hcd) (hbind s₁ (.ref a) _ _ _ _ ?_)
  refine wpAny_newFunctionEnv_cells S.kind hkind fun env he s1 xx => ?_
  subst he
  refine ⟨hlim.keeps xx.toInCall.keep, codeAny_func ?_⟩
  obtain ⟨t, ht, hq⟩ := hbody (hidT s₁.heap H) cdv s₁ H hKb (nsH hns) (hr.deeper _) hSq
  have I : Inv (cxOf CX0 P w K mg (hidT s₁.heap H) N qual (defScope st) fa cdv callerA [] s₁ H E0) [] (L2.start N [.ref a]) H s1 := inv_start S hr.hd e0 rfl (.cons rfl .nil) xx
  refine wpAny_mono (ht.nox.run [] s1 _ H _ I hq) (fun fl s' hs => ?_) fun e s' hs => ?_
  · cases fl with
    | ret u =>
      obtain ⟨v, σ', H', J, ru, q⟩ := hs
      have q' : v = .bl true := q
      subst q'
      cases (show u = Value.bool true from ru)
      refine ⟨rfl, OldK.of_keep fun b o e => ?_, J.os, J.bare⟩
      cases q : H b with
      | none => exact J.base.keep b o e q (fun z => by cases (show b ∈ ([] : List Addr) from z)) (fun z => by cases (show b ∈ ([] : List Addr) from z))
      | some u =>
        obtain ⟨e1, _, e2⟩ := hA q
        subst e1 e2
        obtain ⟨e3, _⟩ := J.hok _ _ (J.base.frzs _ _ _ q)
        rw [ha] at e
        cases e
        exact e3
    | next => obtain ⟨_, _, _, q⟩ := hs; exact q.elim
    | brk => obtain ⟨_, _, _, q⟩ := hs; exact (show False from q).elim
    | cont => obtain ⟨_, _, _, q⟩ := hs; exact (show False from q).elim
  · exact wpAny_mono hs (fun _ _ z => (show False from z).elim) fun _ _ z => (show False from z).elim
end

/-! ## repr -/
section
variable {X : Cx} {K : Fg} {s : Sto}
theorem cb_repr (hg : X.A.guards = some []) (hu : X.A.units + 64 < cLine) : CallR X (.builtin "repr") (rRepr X.K) := by
  intro pins s σ H xs us Q I r h
  obtain ⟨x, d, rfl, hd, h1, h2, h3, h4, q⟩ := h
  obtain ⟨u, rfl, ru⟩ := vals1 r
  obtain ⟨as, hr⟩ := Dp.reads I d x u hd ru
  cases hr with
  | none => exact PySem.P.repr_of_none ⟨.str _, H, I.tok _, ⟨_, rfl⟩, q⟩
  | bool b => exact PySem.P.repr_of_bool ⟨.str _, H, I.tok _, ⟨_, rfl⟩, q⟩
  | int i t => exact PySem.P.repr_of_int (of_decide_eq_true h1) ⟨.str _, H, I.tok _, ⟨_, rfl⟩, q⟩
  | str z t => exact PySem.P.repr_of_str ⟨.str _, H, I.tok _, ⟨_, rfl⟩, q⟩ h4
  | @list a o vs n ys as g1 g2 g3 g4 =>
    exact PySem.repr_of_reads' (.list g1 g2 g3 g4) h1 (PyData.noDict_hsm h2) hg (by omega) (fun _ _ e => e) (fun h' u tk hk => ⟨.str _, H, I.kept hk, ⟨_, rfl⟩, q⟩) h4
  | @tuple a o vs n ys as g1 g2 g3 g4 =>
    exact PySem.repr_of_reads' (.tuple g1 g2 g3 g4) h1 (PyData.noDict_hsm h2) hg (by omega) (fun _ _ e => e) (fun h' u tk hk => ⟨.str _, H, I.kept hk, ⟨_, rfl⟩, q⟩) h4
  | dict g1 g2 g3 g4 g5 => simp [PyData.hasDict] at h2
theorem o_repr {d : PyData} (h1 : PyData.showable d = true) (h2 : PyData.hasDict d = false) (h3 : d.depth ≤ 60) (h4 : d.shown.length ≤ 16000000) : OpC K (rRepr K) [.d d] s (.d (.str d.shown)) s := fun M H vs S r Q q => by
  cases r with
  | cons h t =>
    cases t
    exact ⟨_, d, rfl, At.dp _ _ (At.mono hid_same _ _ h), h1, h2, h3, Nat.le_trans h4 (by decide), q.here S (.str _)⟩
end
/-! ## slices -/
section
variable {X : Cx} {K : Fg} {s s1 s2 s3 : Sto} {ρ : En} {te : TE} {tl th : TO} {x : Dx}
theorem SlR.or {r r' : V → Option Int → Option Int → Hp → VK → Prop} (h : SlR X r) (h' : SlR X r') : SlR X (fun x lo hi H Q => r x lo hi H Q ∨ r' x lo hi H Q) := fun pins s σ H x v vl vu lo hi sl Q I rx hs pl pu q =>
  q.elim (h pins s σ H x v vl vu lo hi sl Q I rx hs pl pu) (h' pins s σ H x v vl vu lo hi sl Q I rx hs pl pu)
def EvO (K : Fg) (to : TO) (ρ : En) (s : Sto) (o : Option Int) (s' : Sto) : Prop := ∀ M σ H, So K M s H → RE K M H σ ρ → ∀ Q : Option Int → Hp → Prop, (∀ H', Same (hid M H) (hid M H') → So K M s' H' → Q o H') → to σ H Q
theorem eo_none : EvO K tNoPart ρ s none s := fun M σ H S R Q q => q H (Same.refl _) S
theorem eo_some {i : Int} (h : Ev K te ρ s (.d (.int i)) s1) : EvO K (tPart te) ρ s (some i) s1 := fun M σ H S R Q q => h M σ H S R _ fun v H1 e S1 r => by
  cases r
  exact ⟨i, rfl, q H1 e S1⟩
/-- t[lo:hi], t a tuple -/
theorem cut_all {α : Type} (xs : List α) (a b : Nat) (h : a = 0 ∧ b = xs.length) : (xs.drop a).take (b - a) = xs := by
  obtain ⟨rfl, rfl⟩ := h
  simp
def cutD (ds : List PyData) (lo hi : Option Int) : List PyData := (ds.drop (HT.sIx ds.length 0 lo)).take (HT.sIx ds.length ds.length hi - HT.sIx ds.length 0 lo)
theorem ev_slT {ds : List PyData} {lo hi : Option Int} (h : Ev K te ρ s (.d (.tuple ds)) s1) (h1 : EvO K tl ρ s1 lo s2) (h2 : EvO K th ρ s2 hi s3) : Ev K (tSl (rSlA K) te tl th) ρ s (.d (.tuple (cutD ds lo hi))) s3 := fun M σ H S R Q q =>
  h M σ H S R _ fun v H1 e1 S1 r => h1 M σ H1 S1 (R.mono e1) _ fun H2 e2 S2 => h2 M σ H2 S2 (R.mono (e1.trans e2)) _ fun H3 e3 S3 => by
    have r' : At K (hid M H3) v (.tuple ds) := At.mono (e2.trans e3) _ _ r
    have q3 := q.step ((e1.trans e2).trans e3)
    cases r' with
    | @tup a xs _ g a1 =>
      refine ⟨a, xs, rfl, same_t hid_same g, fun z => ?_, fun z p hp => ?_⟩
      · refine q3.here S3 ?_
        have e : cutD ds lo hi = ds := by
          unfold cutD
          refine cut_all _ _ _ ?_
          rw [← a1.len]
          exact z
        rw [e]
        exact .tup g a1
      · refine q3 _ _ (hid_new hp) (S3.new hp) (At.tup (xs := cutV xs lo hi) (SqT.of ?_) (AtAll.mono (hid_new hp) _ _ ?_))
        · rw [hid_out (S3.free hp)]
          exact upd_same
        · unfold cutV cutD
          rw [← a1.len]
          exact AtAll.take _ (AtAll.drop _ a1)
end
end Pw
namespace Pw
open PySem L2
section
variable {P : Program} {w : World} {K : Fg} {mg : Str → Option Value} {base : Heap} {ρ : En} {s s1 s2 s3 : Sto} {x y z : Dx} {xs ys zs : List Dx} {ta tb te : TE} {tas tks : TA} {t u : TT} {b c : Bool} {i j : Int} {ds es : List PyData}
theorem cx_K {CX : CXT} {N : List Str} {qual : Str} {sc : Scope} {f : Addr} {cd : Value} {A : Around} {outer : List Env} {s : Shared} {H : Hp} {E : XK} : (cxOf CX P w K mg base N qual sc f cd A outer s H E).K = K := rfl
theorem nox_K {CX : CXT} {N : List Str} {qual : Str} {sc : Scope} {f : Addr} {cd : Value} {A : Around} {outer : List Env} {s : Shared} {H : Hp} {E : XK} : (cxOf CX P w K mg base N qual sc f cd A outer s H E).nox.K = K := rfl
theorem okr_0 {M0 : List Addr} {H0 : Hp} {Q : VK} {d : PyData} {s : Sto} (q : Okk K M0 s (.d d) H0 Q) (hl : s.length = M0.length) : Okr K M0 H0 (.d d) s Q := by
  have h := okr_d (t := []) q hl
  rw [List.append_nil] at h
  exact h
theorem Okr.is {M0 : List Addr} {H0 : Hp} {Q : VK} {x x' : Dx} {s : Sto} (h : Okr K M0 H0 x s Q) (e : x' = x) : Okr K M0 H0 x' s Q := e ▸ h
inductive Und : List Dx → List PyData → Prop
  | nil : Und [] []
  | cons {d xs ds} : Und xs ds → Und (.d d :: xs) (d :: ds)
theorem Und.map : ∀ {xs : List Dx} {ds : List PyData}, Und xs ds → xs = ds.map Dx.d
  | _, _, .nil => rfl
  | _, _, .cons h => by rw [List.map_cons, ← h.map]
theorem ev_tupU (h : Eva K tas ρ s xs s1) (hu : Und xs ds) (hl : ds.length ≤ 100000) : Ev K (tTup tas) ρ s (.d (.tuple ds)) s1 := ev_tup (hu.map ▸ h) hl
theorem evn_lstU (h : Eva K tas ρ s xs s1) (hu : Und xs ds) (hl : ds.length ≤ 100000) : EvN K (tLst tas) ρ s ds s1 := evn_lst (hu.map ▸ h) hl
theorem et_or1 (h1 : EvT K t ρ s true s1) : EvT K (tOr t u) ρ s true s1 := fun M σ H S R Q q => h1 M σ H S R _ fun H1 e S1 => q H1 e S1
theorem et_and0 (h1 : EvT K t ρ s false s1) : EvT K (tAnd t u) ρ s false s1 := fun M σ H S R Q q => h1 M σ H S R _ fun H1 e S1 => q H1 e S1
theorem ev_and0 (h1 : Ev K ta ρ s (.d (.bool false)) s1) : Ev K (tAndV ta tb) ρ s (.d (.bool false)) s1 := fun M σ H S R Q q => h1 M σ H S R _ fun v H1 e S1 r => by
  cases r
  exact ⟨false, rfl, q _ H1 e S1 (.bl false)⟩
theorem o_repI (h : ds.length * j.toNat ≤ 1000000) (h0 : 0 ≤ j) (h2 : j ≤ 1000000) : Op2N K rTimes (.d (.list ds)) (.d (.int j)) s (List.replicate j.toNat ds).flatten s := by
  have e : j = ((j.toNat : Nat) : Int) := (Int.toNat_of_nonneg h0).symm
  have := o_rep (K := K) (s := s) (ds := ds) (n := j.toNat) h (by omega)
  rw [← e] at this
  exact this
theorem o_neS {a b : Str} : Op2 K rNe (.d (.str a)) (.d (.str b)) s (.d (.bool (!decide (V.str a = V.str b)))) s := fun M H v w S r1 r2 Q q => by
  cases r1; cases r2
  exact ⟨rfl, q.here S (.bl _)⟩
theorem o_eqS {a b : Str} : Op2 K rEq (.d (.str a)) (.d (.str b)) s (.d (.bool (decide (V.str a = V.str b)))) s := fun M H v w S r1 r2 Q q => by
  cases r1; cases r2
  exact ⟨rfl, q.here S (.bl _)⟩
theorem w_at {M0 : List Addr} {H0 : Hp} {F : Kp} {P : L2.St → Hp → Prop} {ρ' : En} {s' : Sto} (h : W K M0 H0 F P ρ' s') (hρ : ρ = ρ' := by rfl) (hs : s = s' := by rfl) : W K M0 H0 F P ρ s := hρ ▸ hs ▸ h
theorem so_nil {H : Hp} : So K [] [] H := ⟨List.nodup_nil, rfl, fun k p ds e => by simp at e⟩
theorem hid_nil {H : Hp} : hid [] H = H := by
  funext a
  exact hid_out (by simp)
theorem rxs_scr {H : Hp} {a : Addr} {ns : List Int} (h : SqL K H a (ns.map V.int)) : RXs K [] H [.ref a] [.scr ns] := .cons ⟨a, rfl, by rw [hid_nil]; exact h⟩ .nil
theorem okr_true {H : Hp} {s : Sto} : Okr K [] H (.d (.bool true)) s (fun v _ => v = .bl true) := fun M v H' _ _ _ r => by
  cases r
  rfl
theorem rxs_1 {M : List Addr} {H : Hp} {i : Int} : RXs K M H [.int i] [.d (.int i)] := .cons (.int i) .nil
/-! ### isinstance by kind -/
def isI : PyData → Bool
  | .int _ => true | .bool _ => true | _ => false
def isB : PyData → Bool
  | .bool _ => true | _ => false
def isL : PyData → Bool
  | .list _ => true | _ => false
def isT : PyData → Bool
  | .tuple _ => true | _ => false
def isS : PyData → Bool
  | .str _ => true | _ => false
theorem kit_int {d : PyData} : kitB (tyN d) "int" = some (isI d) := by cases d <;> (simp only [tyN, isI]; decide +kernel)
theorem kit_bool {d : PyData} : kitB (tyN d) "bool" = some (isB d) := by cases d <;> (simp only [tyN, isB]; decide +kernel)
theorem kit_list {d : PyData} : kitB (tyN d) "list" = some (isL d) := by cases d <;> (simp only [tyN, isL]; decide +kernel)
theorem kit_tuple {d : PyData} : kitB (tyN d) "tuple" = some (isT d) := by cases d <;> (simp only [tyN, isT]; decide +kernel)
theorem kit_str {d : PyData} : kitB (tyN d) "str" = some (isS d) := by cases d <;> (simp only [tyN, isS]; decide +kernel)
end
/-! ### the rules, their K told -/
section
variable {X : Cx} {K : Fg} {e : Expr} {te : TE} {es : List Expr} {t : TGs} {k n : Nat} {pos p tpos : Pos} {ta tb : TE} {a b : Expr} {tas : TA}
theorem opk_plus (hK : X.K = K := by rfl) : OpR X (binaryOp .Add) (rPlus K) := hK ▸ op_plus
theorem opk_eq (hu : X.A.units + 64 < cLine) (hK : X.K = K := by rfl) : OpR X (compareOp .Eq) (rEqD K) := hK ▸ op_eqD hu
theorem opk_ne (hu : X.A.units + 64 < cLine) (hK : X.K = K := by rfl) : OpR X (compareOp .NotEq) (rNeD K) := hK ▸ op_neD hu
theorem ixk (hK : X.K = K := by rfl) : IxR X (rIx K) := hK ▸ ix_seq
theorem cbk_len (hK : X.K = K := by rfl) : CallR X (.builtin "len") (rLen K) := hK ▸ cb_len
theorem cbk_isi (hK : X.K = K := by rfl) : CallR X (.builtin "isinstance") (rIsi K) := hK ▸ call_isi
theorem cbk_isiT (hK : X.K = K := by rfl) : CallR X (.builtin "isinstance") (rIsiT K) := hK ▸ call_isiT
theorem cbk_all (hc : X.calm = true) (hK : X.K = K := by rfl) : CallR X (.builtin "all") (rAll K) := hK ▸ cb_all hc
theorem cbk_list (hK : X.K = K := by rfl) : CallR X (.type "list") (rListOf K) := hK ▸ cb_list
theorem cbk_tup (hK : X.K = K := by rfl) : CallR X (.type "tuple") (rTupOf K) := hK ▸ cb_tup
theorem cbk_repr (hg : X.A.guards = some []) (hu : X.A.units + 64 < cLine) (hK : X.K = K := by rfl) : CallR X (.builtin "repr") (rRepr K) := hK ▸ cb_repr hg hu
theorem slk_tup (hK : X.K = K := by rfl) : SlR X (rSlA K) := hK ▸ sl_tupA
theorem pik_list {tg : Expr} (h : PE X e te) (hK : X.K = K := by rfl) : PI X tg e (iList K te) := hK ▸ pi_list h
theorem pik_tup {tg : Expr} (h : PE X e te) (hK : X.K = K := by rfl) : PI X tg e (iTup K te) := hK ▸ pi_tup h
theorem pik_zip {elts : List Expr} {kk : Nat} (hg : Gl X "zip") (hm : X.mg "zip" = none) (ha : PA X [a, b] tas) (hK : X.K = K := by rfl)
    (hs : starEach [a, b] X.env = (false, eval a X.env) :: starEach [b] X.env := by rfl) (hpl : (backTo pos (starEach [b] X.env)).any (·.1) = false := by rfl) :
    PI X (.Tuple elts kk tpos) (.Call (.Name "zip" p) [a, b] [] pos) (RZ.iZipA K tas) := hK ▸ RZ.pi_zipA hg hm ha hs hpl
theorem pgk_tup (n : Nat) (hc : X.calm = true) (h : PGs X es t) (hK : X.K = K := by rfl) (hn : (assignEach es X.env).length = n := by rfl) (hst : (assignEach es X.env).findIdx? (·.1) = none := by rfl) : PG X (.Tuple es k pos) (gTup K n t) := by
  subst hK hn
  exact pg_tup hc h rfl hst
end
end Pw
namespace Pw
open PySem L2
/-- what is known of a frame, less of it -/
inductive Lq : En → En → Prop
  | nil : Lq [] []
  | same {x l m} : Lq l m → Lq (x :: l) (x :: m)
  | none {x l m} : Lq l m → Lq (none :: l) (x :: m)
theorem Lq.len {l m : En} (h : Lq l m) : l.length = m.length := by
  induction h with
  | nil => rfl
  | same _ ih => simp [ih]
  | none _ ih => simp [ih]
theorem Lq.at_ {l m : En} (h : Lq l m) : ∀ (i : Nat) x, l[i]? = some (some x) → m[i]? = some (some x) := by
  induction h with
  | nil => intro i x e; exact e
  | same _ ih =>
    intro i x e
    cases i with
    | zero => exact e
    | succ i => exact ih i x e
  | none _ ih =>
    intro i x e
    cases i with
    | zero => cases e
    | succ i => exact ih i x e
theorem Lq.set {l m : En} (h : Lq l m) (n : Nat) (x : Option Dx) : Lq (l.set n x) (m.set n x) := by
  induction h generalizing n with
  | nil => exact .nil
  | same h ih =>
    cases n with
    | zero => exact .same h
    | succ n => exact .same (ih n)
  | none h ih =>
    cases n with
    | zero => exact .same h
    | succ n => exact .none (ih n)
theorem Lq.refl : ∀ l : En, Lq l l
  | [] => .nil
  | _ :: l => .same (Lq.refl l)
section
variable {K : Fg} {ρ ρ' : En} {s : Sto} {M0 : List Addr} {H0 : Hp} {F : Kp} {P : L2.St → Hp → Prop} {ds : List PyData}
theorem w_wk (q : Lq ρ' ρ) (h : W K M0 H0 F P ρ' s) : W K M0 H0 F P ρ s := w_weak h q.len q.at_
theorem o_tupL : OpC K (rTupOf K) [.d (.list ds)] s (.d (.tuple ds)) s := fun M H vs S r Q q => by
  cases r with
  | cons h t =>
    cases t
    cases h with
    | lst h a =>
      refine ⟨_, _, rfl, .inl ⟨SqL.of (hid_some h).2, fun l hl => ?_⟩⟩
      refine q _ _ (hid_new hl) (S.new hl) (At.tup (SqT.of ?_) (AtAll.mono (hid_new hl) _ _ a))
      rw [hid_out (S.free hl)]
      exact upd_same
end
end Pw
namespace Pw
open PySem L2
open PySem.W PySem.Spec PyProof.Rows
/-- a law's end, from its def's body -/
theorem law_end {l : PySem.W.OpenLaw} {n k : Nat} {q : Program} {loose : List Str} {XP : (Str → Option Value) → Heap → Prop} {YP : World → Heap → Prop} {d : DefRec} {K : Params → PySem.W.Frag} {x nm qual : Str} {st : Stmt} {N : List Str}
    (hn : l.most = some n) (hn2 : n ≤ sizeLine) (hdf : d.params.defaults = []) (hr : Room (k + 1) callerA) (hY : ∀ (w : World) (h : Heap), YP w h → (K w.params).In h) (S : FnScope N [x] (defScope st))
    (F : ∀ (w : World) (mg : Str → Option Value) (fa : Addr) (h : Heap), (K w.params).In h → h.Ns mainGlobals mg → mg d.name = some (.ref fa) →
      ∃ fd : FuncData, Fun (K w.params) nm qual st fa fd ∧ (∀ (s : Shared) (u : Value), BindsTo s fd ⟨[u], []⟩ [(x, u)]) ∧
        ∀ (base : Heap) (cdv : Value) (s : Shared) (H : Hp) (a : Addr) (ns : List Int), ns.length ≤ n → (K w.params).In base → base.Ns mainGlobals mg → Room k (callerA.deeper (envOfC qual (defScope st) s.heap.objs.size fa cdv)) → SqL (K w.params) H a (ns.map V.int) →
          ∃ t, PSs (cxOf CX0 l.prog w (K w.params) mg base N qual (defScope st) fa cdv callerA [] s H E0).nox (defBody st) t ∧ t { nx := fun _ _ => False, rt := fun v _ => v = .bl true } (L2.start N [.ref a]) H) :
    PySem.W.WalkO q loose XP YP l.row.toRowW d [] (fun f vs => PySem.call f vs) :=
  Att.attach_call hn hdf fun w s₀ s₁ mg mb fa o pm cd doc a vs ns G Y ho hd hcd hmg hobj hints hlen hg => by
    have KX := hY w _ Y
    obtain ⟨fd, hF, hb, hB⟩ := F w mg fa _ KX G.T.g hmg
    exact law_at KX G.T.g G.T.b G.T.builtins G.T.nolimit hg hobj hints (Nat.le_trans hlen hn2) hr hF S hb fun base cdv s H h1 h2 h3 h4 => hB base cdv s H a ns hlen h1 h2 h3 h4
end Pw
/-! errors that are caught, and held beyond their clause -/
namespace PySem
open PySem.W PySem.Spec
section
variable {M : Model} {A : Around} {E : Value → Shared → Prop} {s : Shared}
theorem loopA {cs : List Value} {f : Value → PUnit → Sem (ForInStep PUnit)} (hf : ∀ c ∈ cs, ∀ Q : ForInStep PUnit → Shared → Prop, Q (.yield ⟨⟩) s → wpAny M A (f c ⟨⟩) Q E s) {Q : PUnit → Shared → Prop} (q : Q ⟨⟩ s) : wpAny M A (forIn cs PUnit.unit f) Q E s := by
  induction cs with
  | nil =>
    rw [List.forIn_nil]
    exact wpAny_pure q
  | cons c r ih =>
    rw [List.forIn_cons]
    exact wpAny_bind (hf c List.mem_cons_self _ (ih fun c' h => hf c' (List.mem_cons_of_mem _ h)))
theorem loopB {τ : Type} {K : Frag} {cls : Value} {f : Value → τ → Sem (ForInStep τ)} {r0 rt : τ} (hf : ∀ c b, exmOne K cls c = some b → ∀ Q : ForInStep τ → Shared → Prop, Q (if b then .done rt else .yield r0) s → wpAny M A (f c r0) Q E s) :
    ∀ {cs : List Value} {b : Bool}, exmAny K cls cs = some b → ∀ {Q : τ → Shared → Prop}, Q (if b then rt else r0) s → wpAny M A (forIn cs r0 f) Q E s := by
  intro cs
  induction cs with
  | nil =>
    intro b h Q q
    rw [List.forIn_nil]
    cases h
    exact wpAny_pure q
  | cons c r ih =>
    intro b h Q q
    obtain ⟨b1, d1, h1, h2, rfl⟩ := exmAny_cons h
    rw [List.forIn_cons]
    refine wpAny_bind (hf c b1 h1 _ ?_)
    cases b1 with
    | true => exact wpAny_pure q
    | false => exact ih h2 q
/-- .. of a tuple of any many classes -/
theorem exm_tupN {K : Frag} {cs : List Value} {cls : Value} {tp e : Addr} {b : Bool} {h : Heap} (X : K.In h) (LT : Looks M h (typeOf (.ref e)) cls) (hp : h.get? tp = some { cls := .type "tuple", data := .seq cs.toArray }) (hx : exmAny K cls cs = some b) :
    Looks M h (excMatches (.ref e) (.ref tp)) b := by
  intro A Q E s k q
  have hall : ∀ {cs : List Value} {b : Bool}, exmAny K cls cs = some b → ∀ c ∈ cs, ∃ b1, exmOne K cls c = some b1 := by
    intro cs
    induction cs with
    | nil => intro _ _ c h; cases h
    | cons c r ih =>
      intro b h c' hm
      obtain ⟨b1, d1, h1, h2, _⟩ := exmAny_cons h
      rcases List.mem_cons.mp hm with rfl | hm
      · exact ⟨_, h1⟩
      · exact ih h2 c' hm
  have T0 : Looks M h (isInstance (.ref tp) (.type "tuple")) true := ((Looks.ld hp).andThen .now).andThen (Looks.of_pure isSubtype_tuple_tuple)
  have hp' := k _ _ hp
  unfold excMatches
  refine wpAny_bind ((T0.keeps k).here ?_)
  dsimp only
  rw [if_pos rfl]
  first
    | refine wpAny_bind (wpAny_seqItems hp' rfl ?_)
    | refine wpAny_bind (wpAny_bind (wpAny_seqItems hp' rfl (wpAny_pure ?_)))
  dsimp only [Option.getD_some, Option.getD]
  try refine wpAny_bind (wpAny_pure ?_)
  refine wpAny_bind (loopA (fun c hc Q' q' => ?_) ?_)
  · obtain ⟨b1, h1⟩ := hall hx c hc
    refine wpAny_bind (((exm_cls (M := M) X h1).1.keeps k).here ?_)
    simp only [Bool.not_true, Bool.false_eq_true, if_false]
    exact wpAny_pure q'
  · refine wpAny_bind ((LT.keeps k).here ?_)
    refine wpAny_bind (loopB (K := K) (cls := cls) (rt := (some true, ())) (r0 := (none, ())) (fun c b1 h1 Q' q' => ?_) hx ?_)
    · refine wpAny_bind (((exm_cls (M := M) X h1).2.keeps k).here ?_)
      cases b1 with
      | true => exact wpAny_pure q'
      | false => exact wpAny_pure q'
    · cases b with
      | true => exact wpAny_pure q
      | false => exact wpAny_pure q
end
end PySem
namespace Pw
open PySem L2 PySem.Spec PyProof.Rows
theorem exk_ok {P : Program} {w : World} {H : Hp} {h : Heap} {a : Addr} {cls : Value} {d : Option Addr} {oe : Obj} {vs : Array Value} (e : h.get? a = some oe) (z : Zc cls d oe) (hd : oe.data = .fields vs) : ObjOk P w H h a (exk cls d a) :=
  ⟨⟨oe, vs, e, z, hd⟩, ⟨oe, e⟩, fun _ _ ⟨o, v, q, r⟩ k => ⟨o, v, k o q, r⟩⟩
theorem exk_at {P : Program} {w : World} {H : Hp} {h : Heap} {a : Addr} {cls : Value} {d : Option Addr} (hok : HOk P w H h) (e : H a = some (exk cls d a)) : ∃ (oe : Obj) (vs : Array Value), h.get? a = some oe ∧ Zc cls d oe ∧ oe.data = .fields vs := (hok a _ e).1
section
variable {X : Cx} {pins : List (Addr × Obj)} {σ : L2.St} {H : Hp} {s : Shared}
/-- an object that was not there at the entry joins what is tracked -/
theorem inv_join {a : Addr} {o : HO} {oe : Obj} {vs : Array Value} (I : Inv X pins σ H s) (ha : s.heap.get? a = some oe) (hd : oe.data = .fields vs) (na : H a = none) (nL : a ≠ X.env.locals) (n0 : ∀ u, X.s_0.heap.get? a = some u → a ∈ X.ex) (np : ∀ p ∈ X.pn ++ pins, p.1 ≠ a)
    (new : ObjOk X.prog X.w (upd H a o) s.heap a o) : Inv X pins σ (upd H a o) s where
  ok := I.ok
  os := I.os
  bare := I.bare
  base := ⟨I.base.keep, I.base.slot, fun b u e n hx => by
      rw [upd_ne (fun z => hx (by rw [z] at e ⊢; exact n0 _ e))]
      exact I.base.free b u e n hx, I.base.there, fun b xs e => by
      rw [upd_ne (ne_of_none (I.base.tups b xs e) na)]
      exact I.base.tups b xs e, fun b u v e => by
      rw [upd_ne (ne_of_none (I.base.frzs b u v e) na)]
      exact I.base.frzs b u v e, fun b ps e => by
      obtain ⟨m, z⟩ := I.base.tbls b ps e
      exact ⟨m, by rw [upd_ne (ne_of_none z na)]; exact z⟩⟩
  loc := I.loc
  cell := I.cell
  free := by
    rw [upd_ne nL.symm]
    exact I.free
  freeC := fun x c e => by
    obtain ⟨v, hc⟩ := I.cell x c e
    rw [upd_ne (fun z => by
      obtain ⟨oc, h1, h2⟩ := hc
      subst z
      rw [ha] at h1
      cases h1
      rw [hd] at h2
      cases h2)]
    exact I.freeC x c e
  pin := fun p hp => by
    obtain ⟨h1, h2, h3, h4, h5⟩ := I.pin p hp
    exact ⟨h1, by rw [upd_ne (np p hp)]; exact h2, h3, h4, h5⟩
  hok := fun b u e => by
    by_cases hb : b = a
    · subst hb
      rw [upd_same] at e
      cases e
      exact new
    · rw [upd_ne hb] at e
      exact (I.hok b u e).stay (fun _ _ _ q => q) (fun c q => by rw [upd_ne (ne_of_none q na)]; exact q) fun c xs q => by rw [upd_ne (ne_of_none q na)]; exact q
  len := I.len
end
end Pw
namespace Pw
open PySem L2 PySem.Spec PyProof.Rows
/-- the classes that a clause lists -/
inductive Nms (X : Cx) : List Expr → List Value → Prop
  | nil : Nms X [] []
  | cons {x : Str} {c : Value} {p : Pos} {es : List Expr} {cs : List Value} : Names X x c → Nms X es cs → Nms X (.Name x p :: es) (c :: cs)
section
variable {X : Cx} {a : Addr}
theorem nm_run {x : Str} {c : Value} {np : Pos} {pn : List (Addr × Obj)} {σ : L2.St} {H : Hp} {s : Shared} {Q : Value → Shared → Prop} {E : Value → Shared → Prop} (N : Names X x c) (S : Inv (X.suite a pn) [] σ H s) (q : Q c s) :
    wpAny (model X.prog X.w) (X.A.mark (some (.ref a))) (eval (.Name x np) X.env) Q E s := by
  obtain ⟨g, db, e | ⟨e, hv, hn⟩⟩ := N
  · exact ld_glob (X := X.suite a pn) S g e q db
  · exact ld_blt (X := X.suite a pn) S g e hv q hn db
theorem nms_run {es : List Expr} {cs : List Value} {pos : Pos} {pn : List (Addr × Obj)} {σ : L2.St} {H : Hp} {s : Shared} {E : Value → Shared → Prop} (N : Nms X es cs) (S : Inv (X.suite a pn) [] σ H s) :
    ∀ {Q : List Value → Shared → Prop}, Q cs s → wpAny (model X.prog X.w) (X.A.mark (some (.ref a))) (spliced (backTo pos (starEach es X.env))) Q E s := by
  induction N with
  | nil => exact fun q => wpAny_items_nil q
  | cons n _ ih => exact fun q => wpAny_items_cons (nm_run n S (ih q))
theorem fly_more {B h : Heap} {l : List Env} {Z : Obj → Prop} {h' : Heap} (k : ∀ b o, h.get? b = some o → h'.get? b = some o) (F : HandSPX.FlyingZ B l a Z h) : HandSPX.FlyingZ B l a Z h' := by
  obtain ⟨f1, f2, f3, oe, vs, T, oT, ts, g1, g2, g3, g4, g5, g6, g7, g8, g9⟩ := F
  exact ⟨fun b o e => k b o (f1 b o e), f2, f3.of_keeps fun b o e _ => ⟨o, k b o e, rfl⟩, oe, vs, T, oT, ts, k _ _ g1, g2, g3, g4, g5, g6, k _ _ g7, g8, g9⟩
/-- what a list of classes wishes of an exception; where it is caught it is held in the slot j -/
def wKeep (K : Fg) (cs : List Value) (i j : Nat) (Wout : WX) (D : Ends) : WX := fun cls d σ H =>
  ∃ b, PySem.W.exmAny K cls cs = some b ∧ (b = true → ∀ a, H a = none → D.nx (((σ.set i (some (.ref a))).set j (some (.ref a))).set i none) (upd H a (exk cls d a))) ∧ (b = false → Wout cls d σ H)
theorem keep_ok {u v : Str} {i j : Nat} {p1 p2 p3 : Pos} {pins : List (Addr × Obj)} {σ : L2.St} {H : Hp} {s : Shared} {cls : Value} {d : Option Addr} {D : Ends} {E0 : Value → Shared → Prop} {pos : Pos} {oe : Obj} {vs : Array Value} {h : Heap}
    (hN : X.N.Nodup) (hi : X.N[i]? = some u) (hu : X.env.kindOf u = some .local) (hj : X.N[j]? = some v) (hv : X.env.kindOf v = some .local) (ud : (u == ("__debug__" : Str)) = false) (uc : (u == ("__classdict__" : Str)) = false) (sw : swapsWith (.Name u p2) (some (.Name v p1)) p3.line X.env = pure false)
    (J : Inv X pins σ H { s with heap := h }) (he : h.get? a = some oe) (hz : Zc cls d oe) (hd : oe.data = .fields vs) (na : H a = none) (nL : a ≠ X.env.locals) (nF : a ∉ X.fs) (n0 : ∀ o, X.s_0.heap.get? a = some o → a ∈ X.ex) (np : ∀ p ∈ X.pn ++ pins, p.1 ≠ a)
    (q : D.nx (((σ.set i (some (.ref a))).set j (some (.ref a))).set i none) (upd H a (exk cls d a))) :
    wpAny (model X.prog X.w) (X.A.mark (some (.ref a))) (storeName X.env u (.ref a)) (fun _ s₂ => wpAny (model X.prog X.w) (X.A.mark (some (.ref a))) (execs [.Assign [.Name v p1] (.Name u p2) p3] X.env)
      (fun f s₃ => wpAny (model X.prog X.w) X.A (do bindName X.env u .none; unbindBehindTheSuite X.env u pos) (fun _ s₄ => SP X pins D f s₄) X.xe s₃) (fun _ _ => False) s₂) E0 { s with heap := h } := by
  have S := J.suite he hd na nL nF
  have hil : i < σ.length := by
    have := (List.getElem?_eq_some_iff.mp hi).1
    rw [J.len]
    exact this
  refine store_ok (X := X.suite a ((a, oe) :: (X.pn ++ pins))) (v := .ref a) S hN hi (.inl hu) rfl (fun s5 S5 => ?_) (.inr hu)
  have st : PSs (X.suite a ((a, oe) :: (X.pn ++ pins))) [.Assign [.Name v p1] (.Name u p2) p3] (tAsg (tVar i) (gName j)) := pss_one (ps_set hN hj (.inl hv) (pe_var hi (.inl hu) ud uc) sw (.inr hv))
  refine wpAny_mono (st.run [] s5 _ H { nx := fun σ6 H6 => σ6 = (σ.set i (some (.ref a))).set j (some (.ref a)) ∧ H6 = H, rt := fun _ _ => False } S5 ⟨.ref a, List.getElem?_set_self hil, rfl, rfl⟩) (fun f s6 z => ?_) (fun _ _ z => z)
  cases f with
  | next =>
    obtain ⟨σ6, H6, S6, rfl, rfl⟩ := z
    refine gone_ok (X := X.suite a ((a, oe) :: (X.pn ++ pins))) S6 hN hi hu fun s7 S7 => ?_
    have P := (S7.pin (a, oe) (List.mem_append_left _ List.mem_cons_self)).1
    exact ⟨_, _, inv_join (S7.unsuite J.ok) P hd na nL n0 np (exk_ok P hz hd), q⟩
  | ret _ => obtain ⟨_, _, _, _, _, f⟩ := z; exact f.elim
  | brk => obtain ⟨_, _, _, f⟩ := z; exact f.elim
  | cont => obtain ⟨_, _, _, f⟩ := z; exact f.elim
/-- try: body, except (A, B, ..) as u: v = u -/
theorem ps_try_keep {u v : Str} {i j : Nat} {body : List Stmt} {es : List Expr} {cs : List Value} {kk : Nat} {tp p1 p2 p3 pos pos' : Pos} {tb : WX → TS} {Wout : WX}
    (e1 : X.stack = X.env :: X.outer) (e2 : X.env.frame = some X.env.locals) (hN : X.N.Nodup) (hi : X.N[i]? = some u) (hu : X.env.kindOf u = some .local) (hj : X.N[j]? = some v) (hv : X.env.kindOf v = some .local) (N : Nms X es cs) (tk : Takes X Wout)
    (bo : ∀ (W : WX) (pn : List (Addr × Obj)) (xe : Value → Shared → Prop), Takes (X.tr pn xe) W → PassesOwn (model X.prog X.w) X.A X.env xe → PSs (X.tr pn xe) body (tb W))
    (ud : (u == ("__debug__" : Str)) = false := by decide) (uc : (u == ("__classdict__" : Str)) = false := by decide) (sw : swapsWith (.Name u p2) (some (.Name v p1)) p3.line X.env = pure false := by rfl) (hl : cs.length ≤ 100 := by decide) :
    PS X (.Try body [.ExceptHandler (some (.Tuple es kk tp)) (some u) [.Assign [.Name v p1] (.Name u p2) p3] pos'] [] [] pos) (fun D σ H => tb (wKeep X.K cs i j Wout D) D σ H) := by
  refine ⟨fun pins s σ H D I h => ?_⟩
  have fr1 : X.A.frames = some (X.env :: X.outer) := by rw [I.ok.frames, e1]
  refine wpAny_Try_except ?_
  let XE' : Value → Shared → Prop := fun e t1 => wpAny (model X.prog X.w) X.A (noteFrame e X.env) (fun _ t2 => wpAny (model X.prog X.w) X.A (setFlight e none) (fun _ t3 =>
    wpAny (model X.prog X.w) X.A (handleBy e X.env [.ExceptHandler (some (.Tuple es kk tp)) (some u) [.Assign [.Name v p1] (.Name u p2) p3] pos']) (SP X pins D) X.xe t3) X.xe t2) X.xe t1
  have took : Takes (X.tr (X.pn ++ pins) XE') (wKeep X.K cs i j Wout D) := by
    rintro _ s' ⟨a, B, sI, pins', σ', H', cls, d, rfl, J', nb, up, sky, na, os, ag, b, hb, yes, no⟩
    have J : Inv X pins σ' H' sI := J'.ofTry I.ok
    have sky' : Sky B (X.env :: X.outer) a (Zc cls d) X.env.locals s'.heap := by rw [← e1]; exact sky
    show wpAny (model X.prog X.w) X.A (noteFrame (.ref a) X.env) _ _ _
    refine Sky.land Zc.steady fr1 e2 sky' fun g3 F3 up3 => ?_
    have inB : B.get? a = none := F3.2.1
    have outF : a ∉ frs (X.env :: X.outer) := fun m => by
      obtain ⟨oe, vs, g1, _, g2⟩ := F3.there
      obtain ⟨_, o', e', z⟩ := F3.2.2.1.mem m
      rw [g1] at e'
      cases e'
      exact z _ g2
    have nI : sI.heap.get? a = none := by
      cases e : sI.heap.get? a with
      | none => rfl
      | some o =>
        have := nb a o e (by rw [e1]; exact outF)
        rw [inB] at this
        cases this
    have nL : a ≠ X.env.locals := fun z => outF (List.mem_filterMap.mpr ⟨X.env, List.mem_cons_self, by rw [e2, z]⟩)
    have nF : a ∉ X.fs := fun m => by
      obtain ⟨e, he, q⟩ := List.mem_filterMap.mp m
      exact outF (List.mem_filterMap.mpr ⟨e, List.mem_cons_of_mem _ he, q⟩)
    have n0 : ∀ o, X.s_0.heap.get? a = some o → a ∈ X.ex := fun o e => Classical.byContradiction fun hx => by
      obtain ⟨o', z⟩ := J.base.there a o e hx
      rw [nI] at z
      cases z
    have np : ∀ p ∈ X.pn ++ pins, p.1 ≠ a := fun p hp z => by
      have := (J.pin p hp).1
      rw [z, nI] at this
      cases this
    have up2 := up.trans up3
    have J3 : Inv X pins σ' H' { s' with heap := g3 } := J.landed nb F3.1 up2 os ag
    obtain ⟨oe3, vs3, y1, y2, y3⟩ := F3.there
    refine wpAny_handleBy_cons (codeAny_handlers_test ?_) (by intro q; cases q)
    have S3 := J3.suite y1 y3 na nL nF
    refine wpAny_Tuple (nms_run N S3 ⟨Nat.le_trans hl (by rw [sizeLine_eq]; decide), ?_⟩)
    have kp : ∀ b o, g3.get? b = some o → (g3.push { cls := .type "tuple", data := .seq cs.toArray }).get? b = some o := fun _ _ z => Heap.get?_push_of_some _ z
    have LT : PySem.W.Looks (model X.prog X.w) (g3.push { cls := .type "tuple", data := .seq cs.toArray }) (typeOf (.ref a)) cls := fun A Q E t k q => wpAny_typeOf_ref (k _ _ (kp _ _ y1)) (by rw [y2.1]; exact q)
    have LM := exm_tupN (M := model X.prog X.w) (J3.kIn.keeps kp) LT (Heap.get?_push_size g3 rfl) hb
    refine LM.here ?_
    have F4 := fly_more kp F3
    have up4 : s'.heap.UpToSlots (g3.push { cls := .type "tuple", data := .seq cs.toArray }) := fun b o e z => by
      obtain ⟨sl, y⟩ := up3 b o e z
      exact ⟨sl, kp _ _ y⟩
    cases b with
    | true =>
      refine codeAny_handlers_suite_as ?_
      refine HandSPX.lands_againZ F4 fun g5 F5 up5 => ?_
      have J5 : Inv X pins σ' H' { s' with heap := g5 } := J.landed nb F5.1 ((up.trans up4).trans up5) os ag
      obtain ⟨oe5, vs5, x1, x2, x3⟩ := F5.there
      exact wpAny_mono (keep_ok (p3 := p3) (pos := pos') hN hi hu hj hv ud uc sw J5 x1 x2 x3 na nL nF n0 np (yes rfl a na)) (fun _ _ z => wpAny_mono z (fun _ _ z => z) (fun _ _ z => z.elim)) (fun _ _ z => z)
    | false =>
      show wpAny _ X.A (handleBy (.ref a) X.env []) _ _ _
      refine wpAny_handleBy_nil ?_
      have F4' := F4
      obtain ⟨_, _, _, oe, vs, T, oT, ts, w1, w2, w3, w4, _⟩ := F4'
      unfold PySem.passOn
      refine wpAny_bind (wpAny_field w1 w3 w4 ?_)
      rw [if_neg (show ¬ ((Value.ref T == Value.none) = true) from by simp)]
      have on : wpAny (model X.prog X.w) X.A (setFlight (.ref a) X.env.frame) (fun _ t => wpAny (model X.prog X.w) X.A (throw (.ref a) : Sem Flow) (SP X pins D) X.xe t) X.xe { s' with heap := g3.push { cls := .type "tuple", data := .seq cs.toArray } } := by
        rw [e2]
        refine HandSPX.setFlight_upZ F4 fun g5 F5 up5 => wpAny_throw (tk _ _ ?_)
        exact ⟨a, B, sI, pins, σ', H', cls, d, rfl, J, nb, (up.trans up4).trans up5, .inr (.inr (by rw [e1]; exact F5)), na, os, ag, no rfl⟩
      first
        | exact wpAny_bind (wpAny_pure (wpAny_bind on))
        | exact wpAny_bind on
  refine wpAny_mono ((bo (wKeep X.K cs i j Wout D) (X.pn ++ pins) XE' took PassesOwn.looking).run [] s σ H D (I.toTry _) h) (fun f s1 z => ?_) (fun _ _ z => z)
  cases f with
  | next =>
    obtain ⟨_, _, J', q⟩ := z
    exact wpAny_execs_nil ⟨_, _, J'.ofTry I.ok, q⟩
  | brk =>
    obtain ⟨_, _, J', q⟩ := z
    exact ⟨_, _, J'.ofTry I.ok, q⟩
  | cont =>
    obtain ⟨_, _, J', q⟩ := z
    exact ⟨_, _, J'.ofTry I.ok, q⟩
  | ret _ =>
    obtain ⟨_, _, _, J', r, q⟩ := z
    exact ⟨_, _, _, J'.ofTry I.ok, r, q⟩
end
end Pw
/-! own errors over any built-in class, their __init__ keeping one field -/
namespace Pw
open PySem L2 PySem.Spec PyProof.Rows
/-- an own class of errors whose chain of built-in classes is tl -/
structure Oxg (K : Fg) (C : Addr) (tl : List Value) (newId : String) : Prop where
  base : ∃ B initId, ExcBaseFacts B newId initId tl
  thru : ∀ self, refuseLoop self "__setattr__" tl = pure ()
  obj : tl.contains (.type "object") = true
  cls : ∃ nm q N bs sn sub ab col dd k0 k1 k2 k3 k5, K.lookup C = some (excClassObj nm q C N bs tl true sn sub ab col dd k0 k1 k2 k3 k5 newId)
  sa : PySem.W.findIn K (.ref C) "__setattr__" = some (some (.builtin "object.__setattr__"))
  exC : PySem.W.subIn K (.ref C) (.type "BaseException") = some true
  tyC : PySem.W.typeIn K (.ref C) = some (.type "type")
  kC : PySem.W.keepIn K (.ref C) = true
theorem Oxg.data {K : Fg} {C : Addr} {tl : List Value} {newId : String} (T : Oxg K C tl newId) : ∃ cd, PySem.W.clsIn K C = some cd ∧ cd.mro = .ref C :: tl ∧ cd.hasDict = true := by
  obtain ⟨nm, q, N, bs, sn, sub, ab, col, dd, k0, k1, k2, k3, k5, hC⟩ := T.cls
  refine ⟨{ name := nm, bases := bs, mro := .ref C :: tl, ns := N, qualname := q, hasDict := true, slotNames := sn, subclasses := sub, abstract := ab, collection := col, hasDel := false }, ?_, rfl, rfl⟩
  unfold PySem.W.clsIn
  rw [hC] <;> rfl
end Pw
namespace PySem
open PySem.W PySem.Calls PyProof.Rows Builtin Builtin.ObjectAttr
section
variable {prog : Program} {w : World} {A : Around} {R : Result → Shared → Prop} {hp : Heap} {g : Array GenState} {d : Drawn} {t : Nat} {os : OsState}
/-- the first field of an own error -/
theorem osa_first {K : W.Frag} {name : Str} {tk : Tok} {v : Value} {x C : Addr} {tl : List Value} {newId : String} {fv : Array Value} (T : Pw.Oxg K C tl newId) (X : K.In hp) (hx : hp.get? x = some { cls := .ref C, data := .fields fv }) (no : W.findIn K (.ref C) name = some none)
    (q : ∀ h' tk' dx, (∀ b o, b ≠ x → hp.get? b = some o → h'.get? b = some o) → hp.objs.size ≤ dx → dx ≠ x → h'.get? x = some { cls := .ref C, dict := some dx, data := .fields fv } → h'.Ns1 dx (fun y => if y = name then some v else none) → R (.ok (.ret .none)) ⟨h', g, d, tk', os⟩) :
    codeAny (model prog w) A (.call (.builtin "object.__setattr__") ⟨[.ref x, .str name tk, v], []⟩) R ⟨hp, g, d, t, os⟩ := by
  obtain ⟨cd, hcd, hm, hd⟩ := T.data
  have I : W.InstAt hp x { cls := .ref C, data := .fields fv } C none := ⟨hx, rfl, rfl, trivial⟩
  have far : x ≠ hp.objs.size := Nat.ne_of_lt (Heap.lt_size hx)
  have is : W.Looks (model prog w) hp (isInstance (.ref x) (.type "object")) true := I.type.andThen (W.looks_mroIn X (by
    have ho : (Value.ref C :: tl).contains (.type "object") = true := by rw [List.contains_cons, T.obj, Bool.or_true]
    unfold W.mroIn; rw [hcd, Option.bind_some, hm, if_neg (show ¬ (List.isEmpty (Value.ref C :: tl) = true) from Bool.false_ne_true), ho]))
  refine codeAny_call_builtin F.store_object.slot.plain F.store_object.entry (@W.check_slot (model prog w) _ _ ⟨hp, g, d, t, os⟩ "object.__setattr__" "object" "__setattr__" (.ref x) [.str name tk, v] [] _ F.store_object.kind F.store_object.split is (F.store_object.args (.ref x) (.str name tk) v) ?_)
  have chain : W.Looks (model prog w) hp (mroOf (.ref C)) cd.mro := (W.looks_clsIn X hcd).andThen .now
  have taker : W.Looks (model prog w) hp (storeTaker? none) none := .now
  have cls : W.Looks (model prog w) hp (classData C) cd := W.looks_clsIn X hcd
  have thru : refuseLoop (.ref x) "__setattr__" cd.mro = pure () := by rw [hm, refuseLoop_ref]; exact T.thru _
  rw [W.osa_eq, refuse_eq]
  refine wpAny_bind (wpAny_bind (I.type.at (wpAny_bind (chain.at ?_))))
  rw [thru]
  refine wpAny_pure (wpAny_bind (I.type.at (wpAny_bind ((W.looks_findIn X no).at (wpAny_bind (taker.at ?_))))))
  show wpAny _ _ (storeInOwnDict (.ref x) (.ref C) (.str name tk) name v false) _ _ _
  obtain ⟨c1, c2, c3, c4, c5, c6, c7, c8, c9, c10, c11⟩ := cd
  have hd' : c6 = true := hd
  subst hd'
  unfold storeInOwnDict ownDictForStores; repeat (first | with_reducible refine HandSPX.store_in_new ?_ ?_ | with_reducible refine wpAny_loadPart_at hx ?_ | with_reducible refine cls.at ?_ | wp_step)
  · exact ⟨_, #[], _, (Heap.get?_update_ne _ _ _ _ far.symm).trans (Heap.get?_push_at rfl rfl), rfl, fun e z => absurd z (by simp), fun _ => rfl⟩
  · intro h' tk' ns sb
    have old : (hp.push { cls := .type "dict", data := .dict #[] }).get? x = some { cls := .ref C, data := .fields fv } := Heap.get?_push_of_some _ hx
    exact q h' tk' hp.objs.size (fun b o nb ho => (sb.2 b (Nat.ne_of_lt (Heap.lt_size ho))).trans ((Heap.get?_update_ne _ _ _ _ nb).trans (Heap.get?_push_of_some _ ho))) (Nat.le_refl _) far.symm ((sb.2 x far).trans (Heap.get?_update_self _ old rfl)) ns
end
end PySem
namespace Pw
open PySem L2 PySem.Spec PyProof.Rows
section
variable {X : Cx} {pins : List (Addr × Obj)} {σ : L2.St} {H : Hp} {s : Shared}
/-- self.f = y, the first field -/
theorem field_ok {A : Around} {E : Value → Shared → Prop} {a C : Addr} {tl : List Value} {newId : String} {f : Str} {y : V} {u : Value} {Q : Unit → Shared → Prop} (T : Oxg X.K C tl newId) (I : Inv X pins σ H s) (e : H a = some (exo a C none)) (no : PySem.W.findIn X.K (.ref C) f = some none) (ry : RelV y u)
    (q : ∀ dx s', H dx = none → dx ≠ a → Inv X pins σ (upd (upd H dx (exd dx [(f, y)])) a (exo a C (some dx))) s' → Q () s') : wpAny (model X.prog X.w) A (setAttr (.ref a) f u) Q E s := by
  obtain ⟨t1, ho⟩ := exo_at I.hok e
  obtain ⟨hp, g, d, t, os⟩ := s
  have J : PySem.W.InstAt hp a { cls := .ref C, dict := none, data := .fields #[.ref t1, .none, .none, .none, .bool false, .none] } C none := ⟨ho, rfl, rfl, trivial⟩
  refine PySem.W.set_plain I.kIn J T.sa (osa_first T I.kIn ho no fun h' tk' dx k dn ne hx hn => ?_)
  have nd0 : H dx = none := I.hok.fresh dn
  have oldNe : ∀ {b : Addr} {o : Obj}, hp.get? b = some o → b ≠ dx := fun {b o} z => Nat.ne_of_lt (Nat.lt_of_lt_of_le (Heap.lt_size z) dn)
  have freeNe : ∀ {b : Addr}, H b = none → b ≠ a := fun {b} n z => by rw [z, e] at n; cases n
  have put : ∀ {b : Addr} {o : HO}, H b = some o → o ≠ exo a C none → (upd (upd H dx (exd dx [(f, y)])) a (exo a C (some dx))) b = some o := fun {b o} z n => by
    rw [upd_ne (fun w => n (by rw [w, e] at z; exact (Option.some.inj z).symm)), upd_ne (ne_of_none z nd0)]
    exact z
  have thr : ∀ b o, hp.get? b = some o → ∃ o', h'.get? b = some o' := fun b o z => by
    by_cases hb : b = a
    · subst hb
      exact ⟨_, hx⟩
    · exact ⟨o, k b o hb z⟩
  have U : Un X.fs [] H (upd (upd H dx (exd dx [(f, y)])) a (exo a C (some dx))) hp h' :=
    ⟨fun b o z n _ _ => k b o (freeNe n) z, fun b o z n _ _ => ⟨o.slots, k b o (freeNe n) z⟩, fun b o z n _ => by rw [upd_ne (freeNe n), upd_ne (oldNe z)]; exact n,
      fun b o z _ => thr b o z, fun b xs z => put z (Ne.symm exo_tup), fun b o v z => put z (Ne.symm exo_frz), fun b ps z => ⟨#[], by rw [put z (Ne.symm exo_tbl)]; simp⟩⟩
  refine q dx _ nd0 ne (I.un (t' := tk') U fun b o z => ?_)
  by_cases hb : b = a
  · subst hb
    rw [upd_same] at z
    cases z
    exact exo_ok hx
  · rw [upd_ne hb] at z
    by_cases hd : b = dx
    · subst hd
      rw [upd_same] at z
      cases z
      exact exd_ok hn (relO_put (fs := []) ry fun _ => True.intro)
    · rw [upd_ne hd] at z
      refine (I.hok b o z).stay (fun c v hc w => k c v ?_ w) (fun c hc => put hc (Ne.symm exo_own)) fun c xs hc => put hc (Ne.symm exo_tup)
      rcases hc with hc | hc
      · rw [hc]
        exact hb
      · exact fun w => by
          rw [w, e] at hc
          exact exo_own (Option.some.inj hc)
def tFirst (K : Fg) (f : Str) (to te : TE) : TS := fun D σ H => te σ H fun y H1 => to σ H1 fun x H2 => ∃ (a C : Addr) (tl : List Value) (newId : String), x = .ref a ∧ Oxg K C tl newId ∧ PySem.W.findIn K (.ref C) f = some none ∧ H2 a = some (exo a C none) ∧
  ∀ dx, H2 dx = none → dx ≠ a → D.nx σ (upd (upd H2 dx (exd dx [(f, y)])) a (exo a C (some dx)))
theorem ps_first {o e : Expr} {to te : TE} {f : Str} {p' pos : Pos} (ho : PE X o to) (he : PE X e te) (sw : swapsWith e (some (.Attribute o f p')) pos.line X.env = pure false := by rfl) : PS X (.Assign [.Attribute o f p'] e pos) (tFirst X.K f to te) :=
  ⟨fun pins s σ H D I h => plainObj_wpAny_Assign_Attribute (thn (he.run pins s σ H _ I h) fun v s1 ⟨y, H1, I1, r1, q1⟩ => thn (ho.run pins s1 σ H1 _ I1 q1) fun u s2 ⟨x, H2, I2, r2, a, C, tl, nw, ex, T, no, ea, q⟩ => by
    subst ex
    obtain rfl : u = Value.ref a := r2
    exact field_ok T I2 ea no r1 fun dx s' n ne J => ⟨σ, _, J, q dx n ne⟩) sw⟩
/-- C(e, ..), as ExcInit's rule says it, over any built-in class -/
theorem pmk_first {CX : CXT} {x : Str} {C fI : Addr} {tl : List Value} {newId : String} {k : Nat} {fd : FuncData} {ps : List Str} {sp : Sp} {ds : List Value} {dvs : List V} {e : Expr} {es : List Expr} {ta : TA} {p pos : Pos} (T : Oxg X.K C tl newId) (iC : PySem.W.findIn X.K (.ref C) "__init__" = some (some (.ref fI)))
    (tI : PySem.W.typeIn X.K (.ref fI) = some (.type "function")) (G : FnOk X.prog X.w X.K X.mg X.base CX k fI fd ps sp) (hr : Room (k + 1) X.A) (hb : Binds X.K fd ps ds) (hd : Vals dvs ds) (pass : Passes CX X (fun _ _ _ => False)) (hg : Gl X x) (hm : X.mg x = some (.ref C)) (ha : PA X (e :: es) ta)
    (db : (x == ("__debug__" : Str)) = false := by decide) (st : starEach (e :: es) X.env = (false, eval e X.env) :: starEach es X.env := by rfl) (pl : (backTo pos (starEach es X.env)).any (·.1) = false := by rfl) : PMk X (.Call (.Name x p) (e :: es) [] pos) (tMkO C sp dvs ta) := by
  intro pins s σ H Q I h
  obtain ⟨B, initId, FB⟩ := T.base
  obtain ⟨nm, q, N, bs, sn, sub, ab, col, dd, k0, k1, k2, k3, k5, hC⟩ := T.cls
  refine wpAny_Call_Name_kw (ld_glob I hg hm (PySem.W.callWith_K (h₀ := X.base) I.ok.mod.kin T.kC (thn (ha.run pos pins s σ H _ I h) fun us s1 ⟨vs, H1, I1, r1, hz, q1⟩ => ⟨I1.kIn, ?_⟩) st pl) db)
  show wpAny _ _ (call (.ref C) us) _ _ _
  obtain ⟨hp, g, dr, tk, os⟩ := s1
  have up1 : hp.objs.size ≤ hp.objs.size + 1 := Nat.le_succ _
  have ask := q1 (hp.objs.size + 1) (I1.hok.fresh up1)
  have keep2 : ∀ b o, hp.get? b = some o → ((hp.push (PySem.W.kdv_tup us)).push (PySem.HandSPX.excO C hp.objs.size)).get? b = some o := fun b o z => Heap.get?_push_of_some _ (Heap.get?_push_of_some _ z)
  have made : ((hp.push (PySem.W.kdv_tup us)).push (PySem.HandSPX.excO C hp.objs.size)).get? (hp.objs.size + 1) = some (PySem.HandSPX.excO C hp.objs.size) := by heap_get
  have I2 : Inv X pins σ (upd H1 (hp.objs.size + 1) (exo (hp.objs.size + 1) C none)) ⟨(hp.push (PySem.W.kdv_tup us)).push (PySem.HandSPX.excO C hp.objs.size), g, dr, tk, os⟩ := I1.laid (t' := tk) (a := hp.objs.size + 1) keep2 up1 (exo_ok made)
  have r2 : Vals (V.ref (hp.objs.size + 1) :: (vs ++ dvs)) (Value.ref (hp.objs.size + 1) :: (us ++ ds)) := .cons rfl (r1.append hd)
  have few : (Value.ref (hp.objs.size + 1) :: us ++ ds).length = ps.length := r2.length.symm.trans (G.len _ _ _ _ ask)
  have short : us.length ≤ sizeLine := by rw [← Paired.length r1, sizeLine_eq]; omega
  refine wpAny_call (PySem.HandSPX.call_own FB (fun _ => rfl) (I1.kIn _ _ hC) (PySem.W.looks_findIn I1.kIn iC) (fun self => PySem.W.bind_fn I1.kIn self tI) short (codeAny_mono (G.run _ X.stack _ _ ⟨Value.ref (hp.objs.size + 1) :: us, []⟩ (Value.ref (hp.objs.size + 1) :: (us ++ ds)) _ _ (fun _ _ _ => False)
    (hr.make C us []) (I2.env0.make C us []) (hb _ (Value.ref (hp.objs.size + 1) :: us) I2.kIn few) r2 ask) fun r s' z => ?_))
  cases r with
  | error er => exact pass pins σ _ _ er s' I2 z
  | ok fl =>
    cases fl with
    | ret u =>
      obtain ⟨v, H2, os2, bare2, un2, hok2, rv, ev, d, fs, ea, ed, hd1, q2⟩ := z
      subst ev
      obtain ⟨h2, g2, d2, t2, os'⟩ := s'
      exact ⟨rv, mk_end (raises_own T.exC T.tyC) I1 up1 keep2 un2 hok2 os2 bare2 ea ed hd1 q2⟩
    | next => exact z.elim
    | brk => exact z.elim
    | cont => exact z.elim
end
end Pw
/-! what is asked of a held error -/
namespace Pw
open PySem L2 PySem.Spec PyProof.Rows
structure Exg (K : Fg) (C : Addr) : Prop where
  ga : PySem.W.findIn K (.ref C) "__getattribute__" = some (some (.builtin "BaseException.__getattribute__"))
  gg : PySem.W.findIn K (.ref C) "__getattr__" = some none
  su : PySem.W.subIn K (.ref C) (.type "BaseException") = some true
  hd : PySem.W.hasDictIn K C = true
  cl : (PySem.W.clsIn K C).isSome = true
  ca : PySem.W.findIn K (.ref C) "__class__" = some (some (.builtin "object.__class__"))
  cg : PySem.W.specialIn K (.builtin "object.__class__") "__get__" = some (some (.builtin "getset_descriptor.__get__"))
  tk : PySem.W.takesIn K (.builtin "object.__class__") = some true
  ob : PySem.W.mroIn K C (.type "object") = some true
/-- a held error at a: its class, its dict -/
def HE (H : Hp) (a C : Addr) (d : Option Addr) : Prop := H a = some (exk (.ref C) d a) ∧ ∀ dx, d = some dx → ∃ fs, H dx = some (.xd fs)
section
variable {X : Cx} {pins : List (Addr × Obj)} {σ : L2.St} {H : Hp} {s : Shared}
theorem he_inst {a C : Addr} {d : Option Addr} (I : Inv X pins σ H s) (h : HE H a C d) : ∃ oe od, PySem.W.InstAt s.heap a oe C od := by
  obtain ⟨oe, vs, e, z, hd⟩ := exk_at I.hok h.1
  cases d with
  | none => exact ⟨oe, none, e, z.1, by unfold PySem.W.notCls; rw [hd] <;> rfl, by rw [z.2]; trivial⟩
  | some dx =>
    obtain ⟨fs, ef⟩ := h.2 dx rfl
    obtain ⟨mA, hns, _⟩ : ObjOk X.prog X.w H s.heap dx (.xd fs) := I.hok dx _ ef
    obtain ⟨od, ho, _⟩ := lookIn_ns hns
    exact ⟨oe, some od, e, z.1, by unfold PySem.W.notCls; rw [hd] <;> rfl, by rw [z.2]; exact ho⟩
def rIsX (K : Fg) : List V → Hp → VK → Prop := fun xs H Q => ∃ (a C : Addr) (d : Option Addr) (c : V) (cv : Value) (b : Bool), xs = [.ref a, c] ∧ ClsV c cv ∧ HE H a C d ∧ Exg K C ∧ PySem.W.kitOne K (.ref C) cv = some b ∧ Q (.bl b) H
def rIsXT (K : Fg) : List V → Hp → VK → Prop := fun xs H Q => ∃ (a C : Addr) (d : Option Addr) (tp : Addr) (cs : List V) (us : List Value) (b : Bool), xs = [.ref a, .ref tp] ∧ H tp = some (.tup cs) ∧ Paired ClsV cs us ∧ HE H a C d ∧ Exg K C ∧ PySem.W.kitAny K (.ref C) us = some b ∧ Q (.bl b) H
theorem cb_isX : CallR X (.builtin "isinstance") (rIsX X.K) := by
  rintro pins s σ H xs us Q I r ⟨a, C, d, c, cv, b, rfl, k, he, T, e, q⟩
  obtain ⟨u1, u2, rfl, r1, r2⟩ := vals2 r
  cases k.eq r2
  cases (show u1 = Value.ref a from r1)
  obtain ⟨oe, od, J⟩ := he_inst I he
  exact PySem.W.kia_one (PySem.W.kitx_exc (od := od) T.cl T.ga T.gg T.su T.ca T.cg T.tk T.ob) I.kIn J e (fun z => nomatch z) fun tk => ⟨.bl b, H, I.tok tk, rfl, q⟩
theorem cb_isXT : CallR X (.builtin "isinstance") (rIsXT X.K) := by
  rintro pins s σ H xs us Q I r ⟨a, C, d, tp, cs, ws, b, rfl, hT, k, he, T, e, q⟩
  obtain ⟨u1, u2, rfl, r1, r2⟩ := vals2 r
  cases (show u2 = Value.ref tp from r2)
  cases (show u1 = Value.ref a from r1)
  obtain ⟨oe, od, J⟩ := he_inst I he
  obtain ⟨_, its, rv, ⟨oc, od2, dt, sl⟩, h1, h2, n, h3⟩ := (show ObjOk X.prog X.w H s.heap tp (.tup cs) from I.hok tp _ hT)
  cases ClsV.all k rv
  simp only at h2 h3
  subst h2 h3
  exact PySem.W.kia_tup (PySem.W.kitx_exc (od := od) T.cl T.ga T.gg T.su T.ca T.cg T.tk T.ob) I.kIn J h1 e (fun z => nomatch z) fun tk => ⟨.bl b, H, I.tok tk, rfl, q⟩
def tXg (K : Fg) (f : Str) (te : TE) : TE := fun σ H Q => te σ H fun x H1 => ∃ (a C dx : Addr) (fs : List (Str × V)) (v : V), x = .ref a ∧ Exg K C ∧ PySem.W.findIn K (.ref C) f = some none ∧ H1 a = some (exk (.ref C) (some dx) a) ∧ H1 dx = some (.xd fs) ∧ fs.lookup f = some v ∧ Q v H1
theorem pe_xg {e : Expr} {te : TE} {pos : Pos} {n : Str} (he : PE X e te) (ab : attributeBase e n X.env (eval e X.env) = eval e X.env := by rfl) : PE X (.Attribute e n pos) (tXg X.K n te) :=
  ⟨fun pins s σ H Q I h => attr_of ab (thn (he.run pins s σ H _ I h) fun u s1 ⟨x, H1, I1, rx, a, C, dx, fs, v, ex, T, no, ea, ed, lf, q⟩ => by
    subst ex
    obtain rfl : u = Value.ref a := rx
    obtain ⟨oe, vs, e1, z, hd⟩ := exk_at I1.hok ea
    obtain ⟨mA, hns, rel⟩ : ObjOk X.prog X.w H1 s1.heap dx (.xd fs) := I1.hok dx _ ed
    obtain ⟨od, ho, hl⟩ := lookIn_ns hns
    obtain ⟨u, hu, ru⟩ := RelO.some_of (v := v) (o := mA n) (by rw [← lf]; exact rel n)
    have J : PySem.W.InstAt s1.heap a oe C (some od) := ⟨e1, z.1, by unfold PySem.W.notCls; rw [hd] <;> rfl, by rw [z.2]; exact ho⟩
    exact HandSPX.exc_get I1.kIn J T.ga T.gg T.su (PySem.W.findObj_own T.hd no rfl (by rw [hl, hu])) (handed_of ru) ⟨v, H1, I1.tok _, ru, q⟩)⟩
end
end Pw
/-! defs that may raise; a try that holds the error -/
namespace Pw
open PySem L2 PySem.Spec PyProof.Rows
abbrev Gx := List Dx → Sto → Value → Option (Str × PyData) → Sto → Prop
def Exk (K : Fg) (M : List Addr) (s' : Sto) (cls : Value) (fo : Option (Str × PyData)) (H : Hp) (E : XK) : Prop := ∀ d H', Same (hid M H) (hid M H') → So K M s' H' → XD K M H' d fo → E cls d H'
def spX (K : Fg) (R : Gr) (RX : Gx) : Sp := fun vs H Q E => ∃ M xs s, So K M s H ∧ RXs K M H vs xs ∧ ((∃ x s', R xs s x s' ∧ Okk K M s' x H Q) ∨ ∃ cls fo s', RX xs s cls fo s' ∧ Exk K M s' cls fo H E)
theorem spX_len {K : Fg} {R : Gr} {RX : Gx} {l : Nat} (h : ∀ xs s x s', R xs s x s' → xs.length = l) (h2 : ∀ xs s c f s', RX xs s c f s' → xs.length = l) : ∀ vs H Q E, spX K R RX vs H Q E → vs.length = l := fun vs H Q E ⟨_, _, _, _, hr, q⟩ => by
  rcases q with ⟨_, _, r, _⟩ | ⟨_, _, _, r, _⟩
  · exact hr.len.trans (h _ _ _ _ r)
  · exact hr.len.trans (h2 _ _ _ _ _ r)
section
variable {K : Fg} {ρ ρ' : En} {s s1 s2 s3 : Sto} {x y z : Dx} {xs ys zs : List Dx} {ta tb te : TE} {tas tks : TA} {t u : TT} {b c : Bool} {n m i j : Nat} {X : Cx} {cls : Value} {fo : Option (Str × PyData)} {E : L2.St → XK}
  {M0 M : List Addr} {H0 H H1 : Hp} {F : Kp} {D : Ends} {σ : L2.St} {P : L2.St → Hp → Prop} {tu tw : TS} {R : Gr} {RX : Gx}
theorem Exk.step {M : List Addr} {H H1 : Hp} {E : XK} (q : Exk K M s cls fo H E) (e : Same (hid M H) (hid M H1)) : Exk K M s cls fo H1 E := fun d H2 e2 => q d H2 (e.trans e2)
/-- the expression raises -/
def Evx (K : Fg) (te : TE) (E : L2.St → XK) (ρ : En) (s : Sto) (cls : Value) (fo : Option (Str × PyData)) (s' : Sto) : Prop := ∀ M σ H, So K M s H → RE K M H σ ρ → Exk K M s' cls fo H (E σ) → ∀ Q : VK, te σ H Q
theorem ev_callS (ha : Eva K tas ρ s xs s1) (hR : R xs s1 z s2) : Ev K (tCallS (spX K R RX) E tas) ρ s z s2 := fun M σ H S Re Q q => ha M σ H S Re _ fun vs H1 e1 S1 r1 => ⟨M, xs, s1, S1, r1, .inl ⟨z, s2, hR, q.step e1⟩⟩
theorem evx_callS (ha : Eva K tas ρ s xs s1) (hR : RX xs s1 cls fo s2) : Evx K (tCallS (spX K R RX) E tas) E ρ s cls fo s2 := fun M σ H S Re q Q => ha M σ H S Re _ fun vs H1 e1 S1 r1 => ⟨M, xs, s1, S1, r1, .inr ⟨cls, fo, s2, hR, q.step e1⟩⟩
def tCallKS (l : Nat) (sp : Sp) (gV : List V → List V) (E : L2.St → XK) (tk : TA) : TE := fun σ H Q => tk σ H fun zs H1 => zs.length = l ∧ sp (gV zs) H1 Q (E σ)
theorem ev_callKS {gV : List V → List V} {l : Nat} (hk : Eva K tks ρ s ys s1) (hl : ys.length = l) (hg : ∀ M H zs, RXs K M H zs ys → RXs K M H (gV zs) xs) (hR : R xs s1 z s2) : Ev K (tCallKS l (spX K R RX) gV E tks) ρ s z s2 := fun M σ H S Re Q q =>
  hk M σ H S Re _ fun zs H1 e1 S1 r1 => ⟨r1.len.trans hl, M, xs, s1, S1, hg M H1 zs r1, .inl ⟨z, s2, hR, q.step e1⟩⟩
theorem evx_callKS {gV : List V → List V} {l : Nat} (hk : Eva K tks ρ s ys s1) (hl : ys.length = l) (hg : ∀ M H zs, RXs K M H zs ys → RXs K M H (gV zs) xs) (hR : RX xs s1 cls fo s2) : Evx K (tCallKS l (spX K R RX) gV E tks) E ρ s cls fo s2 := fun M σ H S Re q Q =>
  hk M σ H S Re _ fun zs H1 e1 S1 r1 => ⟨r1.len.trans hl, M, xs, s1, S1, hg M H1 zs r1, .inr ⟨cls, fo, s2, hR, q.step e1⟩⟩
theorem evx_if (h : EvT K t ρ s b s1) (h1 : b = true → Evx K ta E ρ s1 cls fo s2) (h2 : b = false → Evx K tb E ρ s1 cls fo s2) : Evx K (tIf t ta tb) E ρ s cls fo s2 := fun M σ H S Re q Q => h M σ H S Re _ fun H1 e S1 => by
  cases b with
  | true => exact h1 rfl M σ H1 S1 (Re.mono e) (q.step e) Q
  | false => exact h2 rfl M σ H1 S1 (Re.mono e) (q.step e) Q
/-- what a wish on errors wants at a frame -/
def Wx (K : Fg) (M0 : List Addr) (H0 : Hp) (F : Kp) (W : WX) (ρ : En) (s : Sto) (cls : Value) (fo : Option (Str × PyData)) : Prop := ∀ M σ H d, Rl K M0 H0 F M s ρ σ H → XD K M H d fo → W cls d σ H
theorem w_asgX {V : WX} {tg : TG} (h : Evx K te (WE V) ρ s cls fo s1) (k : Wx K M0 H0 F V ρ s1 cls fo) : W K M0 H0 F (tAsg te tg D) ρ s := fun M σ H R => h M σ H R.so R.re (fun d H' e S x => k M σ H' d (R.step e S) x) _
theorem w_retX {V : WX} (h : Evx K te (WE V) ρ s cls fo s1) (k : Wx K M0 H0 F V ρ s1 cls fo) : W K M0 H0 F (tRet te D) ρ s := fun M σ H R => h M σ H R.so R.re (fun d H' e S x => k M σ H' d (R.step e S) x) _
/-- out of the def -/
theorem wx_out {E : XK} (hl : s.length = M0.length) (q : Exk K M0 s cls fo H0 E) : Wx K M0 H0 F (fun c d _ H => E c d H) ρ s cls fo := fun M σ H d R x => by
  obtain ⟨N, hM, _⟩ := id R.ext
  have e : N = [] := by
    have := R.so.len
    rw [hM, List.length_append, hl] at this
    exact List.eq_nil_of_length_eq_zero (by omega)
  subst e
  rw [List.append_nil] at hM
  subst hM
  exact q d H R.same R.so x
/-- one listed class takes it -/
theorem wx_keep {cs : List Value} {V : WX} (he : PySem.W.exmAny K cls cs = some true) (k : W K M0 H0 F D.nx (((ρ.set i (some (.exc cls fo))).set j (some (.exc cls fo))).set i none) s) : Wx K M0 H0 F (wKeep K cs i j V D) ρ s cls fo := fun M σ H d R x =>
  ⟨true, he, fun _ a na => by
    have e : Same (hid M H) (hid M (upd H a (exk cls d a))) := hid_new na
    have R1 := R.step e (R.so.new na)
    have ao : a ∉ M := R.so.free na
    have rx : RX K M (upd H a (exk cls d a)) (.ref a) (.exc cls fo) := ⟨a, d, rfl, by rw [hid_out ao, upd_same], x.up e⟩
    have R2 := (R1.set (n := i) rx).set (n := j) rx
    refine k M _ _ ⟨R2.ext, R2.same, R2.so, ⟨by simpa using R2.re.len, fun l y hy => ?_⟩, R2.kp⟩
    by_cases c : i = l
    · subst c
      by_cases hlt : i < ((ρ.set i (some (.exc cls fo))).set j (some (.exc cls fo))).length
      · rw [List.getElem?_set_self hlt] at hy
        cases hy
      · rw [List.getElem?_eq_none (by simpa using hlt)] at hy
        cases hy
    · rw [List.getElem?_set_ne c] at hy ⊢
      exact R2.re.at_ l y hy, fun z => nomatch z⟩
/-- held errors asked -/
theorem o_isNX : Op2 K rIs (.exc cls fo) (.d .none) s (.d (.bool false)) s := fun M H v w S r1 r2 Q q => by
  obtain ⟨a, d, rfl, h, x⟩ := r1
  cases r2
  refine .inl ⟨rfl, ?_⟩
  rw [decide_eq_false (show ¬ V.ref a = V.non from fun z => nomatch z)]
  exact q.here S (.bl _)
theorem rx_he {a C : Addr} {d : Option Addr} {M : List Addr} {H : Hp} (h : hid M H a = some (exk (.ref C) d a)) (x : XD K M H d fo) : HE H a C d := ⟨(hid_some h).2, fun dx e => by
  cases x with
  | none => cases e
  | one h1 h2 => cases e; exact ⟨_, (hid_some h1).2⟩⟩
theorem ev_isX {C : Addr} {v : V} {cv : Value} (h : Ev K te ρ s (.exc (.ref C) fo) s1) (T : Exg K C) (k : ClsV v cv) (e : PySem.W.kitOne K (.ref C) cv = some b) : Ev K (tCB (rIsX K) (tCons te (tCons (tC v) tNil))) ρ s (.d (.bool b)) s1 := fun M σ H S Re Q q =>
  h M σ H S Re _ fun w H1 e1 S1 ⟨a, d, ew, h1, x⟩ => ⟨a, C, d, v, cv, b, by rw [ew], k, rx_he h1 x, T, e, (q.step e1).here S1 (.bl b)⟩
theorem ev_xg {C : Addr} {f : Str} {y : PyData} (h : Ev K te ρ s (.exc (.ref C) (some (f, y))) s1) (T : Exg K C) (no : PySem.W.findIn K (.ref C) f = some none) : Ev K (tXg K f te) ρ s (.d y) s1 := fun M σ H S Re Q q =>
  h M σ H S Re _ fun w H1 e1 S1 ⟨a, d, ew, h1, x⟩ => by
    cases x with
    | @one dx _ v _ g1 g2 => exact ⟨a, C, dx, _, v, ew, T, no, (hid_some h1).2, (hid_some g1).2, by simp [List.lookup], (q.step e1).here S1 g2⟩
/-! ### raising -/
def spIni (K : Fg) (C : Addr) (f : Str) : Sp := fun vs H Q _ => ∃ (a : Addr) (y : V) (tl : List Value) (nw : String), vs = [.ref a, y] ∧ Oxg K C tl nw ∧ PySem.W.findIn K (.ref C) f = some none ∧ H a = some (exo a C none) ∧
  ∀ dx, H dx = none → dx ≠ a → Q .non (upd (upd H dx (exd dx [(f, y)])) a (exo a C (some dx)))
def tRaise (C : Addr) (sp : Sp) (ta : TA) (V : WX) : TS := fun _ σ H => tMkO C sp [] ta σ H fun cls d H' => V cls d σ H'
theorem w_raise {C : Addr} {f : Str} {V : WX} {y : PyData} {tl : List Value} {nw : String} (T : Oxg K C tl nw) (no : PySem.W.findIn K (.ref C) f = some none) (ha : Eva K tas ρ s [.d y] s1) (k : Wx K M0 H0 F V ρ s1 (.ref C) (some (f, y))) : W K M0 H0 F (tRaise C (spIni K C f) tas V D) ρ s := fun M σ H R =>
  ha M σ H R.so R.re _ fun vs H1 e S1 r => by
    cases r with
    | @cons v _ _ _ h r =>
      cases r
      refine ⟨by simp, fun a na => ⟨a, v, tl, nw, rfl, T, no, upd_same, fun dx n ne => ?_⟩⟩
      rw [upd_ne ne] at n
      refine ⟨rfl, dx, [(f, v)], upd_same, ?_, n, ?_⟩
      · rw [upd_ne ne, upd_same]
      · have eq : upd (del (upd (upd (upd H1 a (exo a C none)) dx (exd dx [(f, v)])) a (exo a C (some dx))) a) dx (.xd [(f, v)]) = upd H1 dx (.xd [(f, v)]) := by
          funext b
          by_cases c1 : b = dx
          · rw [c1, upd_same, upd_same]
          · rw [upd_ne c1, upd_ne c1]
            by_cases c2 : b = a
            · rw [c2, del_same, na]
            · rw [del_ne c2, upd_ne c2, upd_ne c1, upd_ne c2]
        show V _ _ σ _
        rw [eq]
        have e2 : Same (hid M H1) (hid M (upd H1 dx (.xd [(f, v)]))) := hid_new n
        exact k M σ _ _ (R.step (e.trans e2) (S1.new n)) (.one (by rw [hid_out (S1.free n), upd_same]) (At.mono e2 _ _ h))
end
section
variable {P : Program} {w : World} {K : Fg} {mg : Str → Option Value} {base : Heap} {X : Cx}
/-- a def that may raise, called positionally; by keywords -/
structure CbX (P : Program) (w : World) (K : Fg) (mg : Str → Option Value) (base : Heap) (x : Str) (lv : Nat) (sp : Sp) : Prop where
  ex : ∃ (f : Addr) (fd : FuncData) (ps : List Str), mg x = some (.ref f) ∧ PySem.W.keepIn K (.ref f) = true ∧ FnOk P w K mg base (L2.CX P w) lv f fd ps sp ∧ Binds K fd ps []
structure CkX (P : Program) (w : World) (K : Fg) (mg : Str → Option Value) (base : Heap) (x : Str) (lv : Nat) (ks : List Str) (g : {α : Type} → List α → List α) (sp : Sp) : Prop where
  ex : ∃ (f : Addr) (fd : FuncData) (ps : List Str) (g' : List Value → List Value → List Value), mg x = some (.ref f) ∧ PySem.W.keepIn K (.ref f) = true ∧ FnOk P w K mg base (L2.CX P w) lv f fd ps sp ∧ KBn K fd ps 0 ks g' (fun _ zs => g zs)
theorem pe_cbX {fx : Str} {lv : Nat} {sp : Sp} {p pos : Pos} {e : Expr} {es : List Expr} {t : TA} {V : WX} (C : CbX X.prog X.w X.K X.mg X.base fx lv sp) (hr : Room lv X.A) (hg : Gl X fx) (tk : Takes X V) (ha : PA X (e :: es) t)
    (hdb : (fx == ("__debug__" : Str)) = false := by decide) (he : starEach (e :: es) X.env = (false, eval e X.env) :: starEach es X.env := by rfl)
    (hpl : (backTo pos (starEach es X.env)).any (·.1) = false := by rfl) : PE X (.Call (.Name fx p) (e :: es) [] pos) (tCallS sp (WE V) t) := by
  obtain ⟨f, fd, ps, h1, h2, h3, h4⟩ := C.ex
  exact pe_callS h3 hr hg h1 h2 h4 (fun σ => passAt tk σ) ha hdb he hpl
theorem pe_ckX {fx : Str} {lv : Nat} {ks : List Str} {g : {α : Type} → List α → List α} {sp : Sp} {p pos : Pos} {kws : List Keyword} {tk : TA} {V : WX} (C : CkX X.prog X.w X.K X.mg X.base fx lv ks g sp) (hr : Room lv X.A) (hg : Gl X fx) (to : Takes X V) (hkw : PK X kws tk)
    (hall : (backToKw pos (keywordEach kws X.env)).all (·.1.isSome) = true := by rfl) (hks : (backToKw pos (keywordEach kws X.env)).filterMap (·.1) = ks := by rfl) (hdb : (fx == ("__debug__" : Str)) = false := by decide)
    (hpl : ((backTo pos (starEach [] X.env)).any (·.1) || (backToKw pos (keywordEach kws X.env)).any (·.1.isNone)) = false := by rfl) : PE X (.Call (.Name fx p) [] kws pos) (tCallKS ks.length sp (fun zs => g zs) (WE V) tk) := by
  obtain ⟨f, fd, ps, g', h1, h2, h3, h4⟩ := C.ex
  refine ⟨fun pins s σ H Q I h => wpAny_Call_Name_kw (ld_glob I hg h1 (PySem.W.callWith_KW0 (h₀ := X.base) I.ok.mod.kin h2 hall (thn (hkw.run pos pins s σ H _ I h) fun ws s2 ⟨zs, H2, I2, rz, l2, q2⟩ => ⟨I2.kIn, ?_⟩) hpl) hdb)⟩
  rw [hks]
  have r2 := h4.rel (us := []) (vs := []) .nil rz
  refine wpAny_call (codeAny_mono (h3.run X.A X.stack s2 H2 ⟨[], ks.zip ws⟩ (g' [] ws) (g zs) Q (WE V σ) hr I2.env0 (h4.to s2 [] ws I2.kIn rfl (rz.length.symm.trans l2)) r2 q2) fun r s' z => ?_)
  cases r with
  | error e => exact passAt to σ pins H2 s2 e s' I2 z
  | ok fl =>
    cases fl with
    | ret u => exact I2.after z
    | next => exact z.elim
    | brk => exact z.elim
    | cont => exact z.elim
theorem ps_raiseF {CX : CXT} {x : Str} {C fI : Addr} {tl : List Value} {newId : String} {k : Nat} {fd : FuncData} {ps : List Str} {sp : Sp} {e : Expr} {es : List Expr} {ta : TA} {p pos pos' : Pos} {V : WX} (hc : X.calm = true) (tk : Takes X V) (T : Oxg X.K C tl newId) (iC : PySem.W.findIn X.K (.ref C) "__init__" = some (some (.ref fI)))
    (tI : PySem.W.typeIn X.K (.ref fI) = some (.type "function")) (G : FnOk X.prog X.w X.K X.mg X.base CX k fI fd ps sp) (hr : Room (k + 1) X.A) (hb : Binds X.K fd ps []) (pass : Passes CX X (fun _ _ _ => False)) (hg : Gl X x) (hm : X.mg x = some (.ref C)) (ha : PA X (e :: es) ta)
    (db : (x == ("__debug__" : Str)) = false := by decide) (st : starEach (e :: es) X.env = (false, eval e X.env) :: starEach es X.env := by rfl) (pl : (backTo pos (starEach es X.env)).any (·.1) = false := by rfl) :
    PS X (.Raise (some (.Call (.Name x p) (e :: es) [] pos)) none pos') (tRaise C sp ta V) := ps_raise hc tk (pmk_first T iC tI G hr hb .nil pass hg hm ha db st pl)
/-- the __init__ of such a class -/
theorem ok_ini {nm qual : Str} {st : Stmt} {f C : Addr} {fd : FuncData} {N : List Str} {a b fld : Str} {p1 p2 p3 p4 : Pos} (G : Fun K nm qual st f fd) (S : FnScope N [a, b] (defScope st)) (hb : defBody st = [.Assign [.Attribute (.Name a p1) fld p2] (.Name b p3) p4]) (h0 : N = [a, b])
    (da : (a == ("__debug__" : Str)) = false := by decide) (ca : (a == ("__classdict__" : Str)) = false := by decide) (db : (b == ("__debug__" : Str)) = false := by decide) (cb : (b == ("__classdict__" : Str)) = false := by decide)
    (va : ∀ X : Cx, X.env.scope = defScope st → Vis X.env.scope a ∧ Vis X.env.scope b) (sw : ∀ env : Env, swapsWith (.Name b p3) (some (.Attribute (.Name a p1) fld p2)) p4.line env = pure false := by intro _; rfl) : FnOk P w K mg base CX0 1 f fd [a, b] (spIni K C fld) := by
  refine G.ok S (fun vs H Q E ⟨_, _, _, _, e, _⟩ => by rw [e]; rfl) (fun cdv A outer s H vs Q E hr ⟨x, y, tl, nw, e, T, no, hx, q⟩ => ?_)
  subst e h0
  rw [hb]
  have v := va (cxOf CX0 P w K mg base [a, b] qual (defScope st) f cdv A outer s H E).nox rfl
  refine ⟨_, pss_one (ps_first (pe_var (i := 0) rfl v.1 da ca) (pe_var (i := 1) rfl v.2 db cb) (sw _)), ?_⟩
  exact ⟨y, rfl, .ref x, rfl, x, C, tl, nw, rfl, T, no, hx, fun dx n ne => q dx n ne⟩
theorem cbk_isX (hK : X.K = K := by rfl) : CallR X (.builtin "isinstance") (rIsX K) := hK ▸ cb_isX
theorem cbk_isXT (hK : X.K = K := by rfl) : CallR X (.builtin "isinstance") (rIsXT K) := hK ▸ cb_isXT
theorem pe_xgK {e : Expr} {te : TE} {pos : Pos} {n : Str} (he : PE X e te) (hK : X.K = K := by rfl) (ab : attributeBase e n X.env (eval e X.env) = eval e X.env := by rfl) : PE X (.Attribute e n pos) (tXg K n te) := hK ▸ pe_xg he ab
end
section
variable {K : Fg} {ρ : En} {s s1 : Sto} {te : TE} {fo : Option (Str × PyData)} {b : Bool}
theorem tup_isX {C : Addr} {vs : List V} {cvs : List Value} {tas : TA} (h : Ev K te ρ s (.exc (.ref C) fo) s1) (ht : ∀ σ H (Q : List V → Hp → Prop), Q vs H → tas σ H Q) (T : Exg K C) (k : Paired ClsV vs cvs) (hl : vs.length ≤ 1000) (e : PySem.W.kitAny K (.ref C) cvs = some b) :
    Ev K (tCB (rIsXT K) (tCons te (tCons (tTup tas) tNil))) ρ s (.d (.bool b)) s1 := fun M σ H S Re Q q =>
  h M σ H S Re _ fun w H1 e1 S1 ⟨a, d, ew, h1, x⟩ => ht σ H1 _ ⟨by first | exact hl | exact Nat.le_trans hl (by rw [sizeLine_eq]; decide), fun tp n => by
    have e2 : Same (hid M H1) (hid M (upd H1 tp (.tup vs))) := hid_new n
    have := rx_he (e2 _ _ h1) (x.up e2)
    exact ⟨a, C, d, tp, vs, cvs, b, by rw [ew], upd_same, k, this, T, e, (q.step (e1.trans e2)).here (S1.new n) (.bl b)⟩⟩
end
end Pw
namespace Pw
open PySem L2
section
variable {K : Fg} {ρ ρ' : En} {s s1 s2 s3 : Sto} {x y z : Dx} {te : TE} {ta : TA} {n m : Nat} {M0 M : List Addr} {H0 H : Hp} {F : Kp} {D : Ends} {X : Cx} {i j : Int}
theorem iop_addA : PIp X .Add (ipI fun i j => i + j) := ip_add
theorem o_iadd : Op2 K (ipI fun i j => i + j) (.d (.int i)) (.d (.int j)) s (.d (.int (i + j))) s := fun M H v w S r1 r2 Q q => by
  cases r1; cases r2
  exact ⟨i, j, rfl, rfl, q.here S (.int _)⟩
/-- for x in range(i, j, -1) -/
theorem w_forD {tb : TS} {i0 j0 : Int} (h : Eva K ta ρ s [.d (.int i0), .d (.int j0), .d (.int (-1))] s1) (a1 : -(2 ^ 62) ≤ i0) (a2 : i0 < 2 ^ 62) (b1 : -(2 ^ 62) ≤ j0) (b2 : j0 < 2 ^ 62) (I : Nat → En → Sto → Prop) (h0 : I 0 ρ s1)
    (hs : ∀ (i : Nat) ρ' s' (N : L2.St → Hp → Prop), i < (i0 - j0).toNat → I i ρ' s' → (∀ ρ2 s2, I (i + 1) ρ2 s2 → W K M0 H0 F N ρ2 s2) → W K M0 H0 F (tb { D with nx := N, ct := N, bk := D.nx }) (ρ'.set n (some (.d (.int (i0 - (i : Int)))))) s')
    (hd : ∀ ρ' s', I (i0 - j0).toNat ρ' s' → W K M0 H0 F D.nx ρ' s') : W K M0 H0 F (tFor (iRng3 ta) (gName n) tb D) ρ s := fun M σ H R => by
  refine h M σ H R.so R.re _ fun vs H1 e S r => ?_
  cases r with
  | cons r1 r =>
    cases r with
    | cons r2 r =>
      cases r with
      | cons r3 r =>
        cases r
        cases r1; cases r2; cases r3
        refine ⟨i0, j0, -1, (i0 - j0).toNat, rfl, RgC.neg a1 a2 b1 b2, ?_⟩
        refine for_rangeC (fun i σ H => ∃ M s ρ, Rl K M0 H0 F M s ρ σ H ∧ I i ρ s) ⟨M, _, _, R.step e S, h0⟩ (fun i σ H hi ⟨M, s, ρ, R, hI⟩ => ?_) (fun σ H ⟨M, s, ρ, R, hI⟩ => hd ρ s hI M σ H R)
        have e : i0 + (i : Int) * -1 = i0 - (i : Int) := by omega
        rw [e]
        exact hs i ρ s _ hi hI (fun ρ2 s2 h2 M σ H R => ⟨M, s2, ρ2, R, h2⟩) M _ _ (R.set (x := .d (.int (i0 - (i : Int)))) (.int _))
/-- a constant of the module -/
theorem ev_tref {T : Addr} {d : PyData} (h : ∀ H, At K H (.ref T) d) : Ev K (tC (.ref T)) ρ s (.d d) s := fun M σ H S R Q q => q.here S (h _)
end
end Pw
namespace Pw
open PySem L2
section
variable {K : Fg} {X : Cx} {s : Sto}
/-! ### texts: so many times, str and int of numbers, their length -/
def rMulS : R2 := fun x y H Q => ∃ a k, x = .str a ∧ y = .int k ∧ MulOk a k ∧ Q (.str (Txt.mul a k)) H
theorem op_mulS : OpR X (binaryOp .Mult) rMulS := by
  intro pins s σ H x y v u Q I rx ry h
  obtain ⟨a, k, rfl, rfl, ok, q⟩ := h
  obtain ⟨t, rfl⟩ := rx
  obtain ⟨t', rfl⟩ := ry
  exact PySem.SB.mul ok (fun t' tk => ⟨.str _, H, I.tok _, ⟨_, rfl⟩, q⟩)
theorem o_mulS {a : Str} {k : Int} (h : MulOk a k) : Op2 K rMulS (.d (.str a)) (.d (.int k)) s (.d (.str (Txt.mul a k))) s := fun M H v w S r1 r2 Q q => by
  cases r1; cases r2
  exact ⟨a, k, rfl, rfl, h, q.here S (.str _)⟩
def rStrI : List V → Hp → VK → Prop := fun xs H Q => ∃ i, xs = [.int i] ∧ i.natAbs.log2 < 1920 ∧ Q (.str (toString i)) H
theorem cb_strI : CallR X (.type "str") rStrI := call_str_int
theorem o_strI {i : Int} (h : i.natAbs.log2 < 1920) : OpC K rStrI [.d (.int i)] s (.d (.str (toString i))) s := fun M H vs S r Q q => by
  cases r with
  | cons h1 t =>
    cases t
    cases h1
    exact ⟨i, rfl, h, q.here S (.str _)⟩
def rIntS : List V → Hp → VK → Prop := fun xs H Q => ∃ a n, xs = [.str a] ∧ PySem.intText? a = some n ∧ a.length ≤ 640 ∧ Q (.int n) H
theorem cb_intS : CallR X (.type "int") rIntS := call_int_str
theorem o_intS {a : Str} {n : Int} (h : PySem.intText? a = some n) (hl : a.length ≤ 640) : OpC K rIntS [.d (.str a)] s (.d (.int n)) s := fun M H vs S r Q q => by
  cases r with
  | cons h1 t =>
    cases t
    cases h1
    exact ⟨a, n, rfl, h, hl, q.here S (.int _)⟩
end
/-- the text of a 1 and so many noughts is a number whose square is above what has no more figures than that -/
theorem zeros_val : ∀ (n : Nat) (a : Nat), (List.replicate n 48).foldl (fun acc c => acc * 10 + (c - 48)) a = a * 10 ^ n
  | 0, a => by simp
  | n + 1, a => by
    rw [List.replicate_succ, List.foldl_cons, zeros_val n, Nat.pow_succ]
    show (a * 10 + 0) * 10 ^ n = _
    rw [Nat.add_zero, Nat.mul_assoc, Nat.mul_comm 10]
theorem mul_zeros {h : Nat} (h1 : 1 ≤ h) : Txt.mul (Str.ofString "0") (h : Int) = SX.S (List.replicate h 48) := by
  unfold Txt.mul
  rw [if_neg (by omega)]
  have e0 : (Str.ofString "0") = SX.S [48] := by decide +kernel
  rw [e0]
  by_cases c : h = 1
  · subst c
    rfl
  · rw [if_neg (by
      have : (SX.S [48]).length = 1 := rfl
      rw [this]
      simp
      omega), Int.toNat_natCast]
    have : ∀ (k : Nat) (acc : List Nat), List.foldl (fun x1 x2 => x1 ++ x2) acc.toArray (List.replicate k #[48]) = (acc ++ List.replicate k 48).toArray := by
      intro k
      induction k with
      | zero => intro acc; simp
      | succ k ih =>
        intro acc
        rw [List.replicate_succ, List.foldl_cons, show acc.toArray ++ #[48] = (acc ++ [48]).toArray by simp, ih, List.replicate_succ]
        simp
    have e := this h []
    rw [List.nil_append] at e
    exact congrArg Str.mk e
theorem one_zeros {h : Nat} (h1 : 1 ≤ h) (h2 : h ≤ 600) : PySem.intText? (Str.ofString "1" ++ SX.S (List.replicate h 48)) = some ((10 ^ h : Nat) : Int) ∧ (Str.ofString "1" ++ SX.S (List.replicate h 48)).length ≤ 640 := by
  have e0 : (Str.ofString "1") = SX.S [49] := by decide +kernel
  rw [e0]
  have e : SX.S [49] ++ SX.S (List.replicate h 48) = SX.S (49 :: List.replicate h 48) := by
    show Str.mk (_ ++ _) = Str.mk _
    simp
  rw [e]
  constructor
  · rw [SX.int_S (by simp) (by simp) (by simp; omega)]
    congr 1
    congr 1
    show (List.replicate h 48).foldl (fun acc c => acc * 10 + (c - 48)) (0 * 10 + (49 - 48)) = _
    rw [zeros_val]
    simp
  · show (49 :: List.replicate h 48).toArray.size ≤ 640
    simp
    omega
theorem num_len (n : Nat) : 1 ≤ (Str.ofString (toString ((n : Nat) : Int))).length ∧ n < 10 ^ (Str.ofString (toString ((n : Nat) : Int))).length ∧ ∀ k, 1 ≤ k → n < 10 ^ k → (Str.ofString (toString ((n : Nat) : Int))).length ≤ k := by
  have e : (Str.ofString (toString ((n : Nat) : Int))).length = (Nat.toDigits 10 n).length := by
    rw [show ((n : Nat) : Int) = Int.ofNat n from rfl, PyProof.Rows.text_ofNat]
    show (((Nat.toDigits 10 n).map Char.toNat).toArray).size = _
    simp
  rw [e]
  refine ⟨PyProof.Rows.tDigits_len_ge 10 n, ?_, fun k h1 h => PyProof.Rows.digits10_le h1 h⟩
  rcases Nat.lt_or_ge n (10 ^ (Nat.toDigits 10 n).length) with c | c
  · exact c
  · have := PyProof.Rows.digits10_ge c
    omega
end Pw
namespace Pw
open PySem L2
section
variable {K : Fg} {ρ ρ' : En} {s s1 s2 s3 : Sto} {x y z : Dx} {xs : List Dx} {te : TE} {tas ta : TA} {n m l : Nat} {M0 M : List Addr} {H0 H : Hp} {F : Kp} {D : Ends} {X : Cx} {i j : Int}
/-- a, b, c = e1, e2, e3 (no tuple) -/
theorem w_par3 (h : Eva K tas ρ s [x, y, z] s1) (k : W K M0 H0 F D.nx (((ρ.set n (some x)).set m (some y)).set l (some z)) s1) : W K M0 H0 F (tPar3 n m l tas D) ρ s := fun M σ H R =>
  h M σ H R.so R.re _ fun vs H1 e S r => by
    cases r with
    | cons h1 r =>
      cases r with
      | cons h2 r =>
        cases r with
        | cons h3 r =>
          cases r
          exact ⟨_, _, _, rfl, k M _ H1 ((((R.step e S).set h1).set h2).set h3)⟩
/-- a def of which only a relation is known between what is handed in and what is told: the asker is ready for each such answer -/
def spP (K : Fg) (R : Gr) : Sp := fun vs H Q _ => ∃ M xs s, (∃ x s', R xs s x s') ∧ So K M s H ∧ RXs K M H vs xs ∧ ∀ x s', R xs s x s' → Okk K M s' x H Q
theorem spP_len {R : Gr} {l : Nat} (h : ∀ xs s x s', R xs s x s' → xs.length = l) : ∀ vs H Q E, spP K R vs H Q E → vs.length = l := fun vs H Q E ⟨_, _, _, ⟨_, _, hR⟩, _, hr, _⟩ => hr.len.trans (h _ _ _ _ hR)
theorem w_asgP {R : Gr} {E : XK} (ha : Eva K tas ρ s xs s1) (hR : ∃ x s', R xs s1 x s') (k : ∀ x s2, R xs s1 x s2 → W K M0 H0 F D.nx (ρ.set n (some x)) s2) : W K M0 H0 F (tAsg (tCall (spP K R) [] E tas) (gName n) D) ρ s := fun M σ H Rl =>
  ha M σ H Rl.so Rl.re _ fun vs H1 e1 S1 r1 => ⟨M, xs, s1, hR, S1, by rw [List.append_nil]; exact r1, fun x s2 hx v H2 e2 S2 r2 => k x s2 hx M _ H2 ((Rl.step (e1.trans e2) S2).set r2)⟩
/-- for x in (.., ..) (a tuple) -/
theorem set_app {st : Sto} {ds : List PyData} {l : Nat} {X Y : List PyData} (h : l < st.length) : (st.set l X ++ [ds]).set l Y = st.set l Y ++ [ds] := by
  rw [List.set_append_left _ _ (by rw [List.length_set]; exact h), List.set_set]
theorem get_app2 {st : Sto} {ds : List PyData} {l : Nat} {X : List PyData} (h : l < st.length) : (st.set l X ++ [ds])[l]? = some X := by
  rw [List.getElem?_append_left (by rw [List.length_set]; exact h), List.getElem?_set_self h]
theorem get_last {st : Sto} {ds : List PyData} {l : Nat} {X : List PyData} : (st.set l X ++ [ds])[st.length]? = some ds := by
  rw [List.getElem?_append_right (by rw [List.length_set]; exact Nat.le_refl _), List.length_set, Nat.sub_self]
  rfl
theorem set_last {st : Sto} {ds es : List PyData} {l : Nat} {X : List PyData} : (st.set l X ++ [ds]).set st.length es = st.set l X ++ [es] := by
  rw [List.set_append_right _ _ (by rw [List.length_set]; exact Nat.le_refl _), List.length_set, Nat.sub_self]
  rfl
end
end Pw
namespace Pw
open PySem L2
section
variable {K : Fg} {ρ ρ' : En} {s s1 s2 s3 : Sto} {x y z : Dx} {xs : List Dx} {te tl : TE} {tas ta : TA} {tb : TS} {n m l : Nat} {M0 M : List Addr} {H0 H : Hp} {F : Kp} {D : Ends} {X : Cx} {i j : Int}
/-- what a target does with data -/
def Gb (K : Fg) (g : TG) (d : PyData) (b : En → En) : Prop := ∀ (M0 : List Addr) (H0 : Hp) (F : Kp) (M : List Addr) (s : Sto) (ρ : En) (σ : L2.St) (H : Hp) (v : V) (Q : L2.St → Hp → Prop), Rl K M0 H0 F M s ρ σ H → At K (hid M H) v d → (∀ σ', Rl K M0 H0 F M s (b ρ) σ' H → Q σ' H) → g v σ H Q
theorem gb_name {d : PyData} : Gb K (gName n) d (fun ρ => ρ.set n (some (.d d))) := fun M0 H0 F M s ρ σ H v Q R a q => q _ (R.set (x := .d d) a)
theorem gb_tup2 {g1 g2 : TG} {d1 d2 : PyData} {b1 b2 : En → En} (h1 : Gb K g1 d1 b1) (h2 : Gb K g2 d2 b2) : Gb K (gTup K 2 (gCons g1 (gCons g2 gNil))) (.tuple [d1, d2]) (fun ρ => b2 (b1 ρ)) := fun M0 H0 F M s ρ σ H v Q R a q => by
  cases a with
  | tup hs a =>
    cases a with
    | cons a1 a =>
      cases a with
      | cons a2 a =>
        cases a
        refine ⟨_, _, rfl, same_t hid_same hs, rfl, _, _, rfl, h1 M0 H0 F M s ρ σ H _ _ R a1 fun σ1 R1 => ⟨_, _, rfl, h2 M0 H0 F M s _ σ1 H _ _ R1 a2 fun σ2 R2 => ⟨rfl, q σ2 R2⟩⟩⟩
theorem gb_tup3 {g1 g2 g3 : TG} {d1 d2 d3 : PyData} {b1 b2 b3 : En → En} (h1 : Gb K g1 d1 b1) (h2 : Gb K g2 d2 b2) (h3 : Gb K g3 d3 b3) : Gb K (gTup K 3 (gCons g1 (gCons g2 (gCons g3 gNil)))) (.tuple [d1, d2, d3]) (fun ρ => b3 (b2 (b1 ρ))) := fun M0 H0 F M s ρ σ H v Q R a q => by
  cases a with
  | tup hs a =>
    cases a with
    | cons a1 a =>
      cases a with
      | cons a2 a =>
        cases a with
        | cons a3 a =>
          cases a
          refine ⟨_, _, rfl, same_t hid_same hs, rfl, _, _, rfl, h1 M0 H0 F M s ρ σ H _ _ R a1 fun σ1 R1 => ⟨_, _, rfl, h2 M0 H0 F M s _ σ1 H _ _ R1 a2 fun σ2 R2 => ⟨_, _, rfl, h3 M0 H0 F M s _ σ2 H _ _ R2 a3 fun σ3 R3 => ⟨rfl, q σ3 R3⟩⟩⟩⟩
/-- for .. in a tuple -/
theorem w_forT {g : TG} {ds : List PyData} (b : PyData → En → En) (hb : ∀ d ∈ ds, Gb K g d (b d)) (h : Ev K tl ρ s (.d (.tuple ds)) s1) (I : Nat → En → Sto → Prop) (h0 : I 0 ρ s1)
    (hs : ∀ v (i : Nat) d ρ' s' (N : L2.St → Hp → Prop), ds[i]? = some d → I i ρ' s' → (∀ ρ2 s2, I (i + 1) ρ2 s2 → W K M0 H0 ((v, .tuple ds) :: F) N ρ2 s2) → W K M0 H0 ((v, .tuple ds) :: F) (tb { D with nx := N, ct := N, bk := D.nx }) (b d ρ') s')
    (hd : ∀ ρ' s', I ds.length ρ' s' → W K M0 H0 F D.nx ρ' s') : W K M0 H0 F (tFor (iTup K tl) g tb D) ρ s := fun M σ H R => by
  refine h M σ H R.so R.re _ fun v H1 e S r => ?_
  replace R := (R.step e S).more r
  clear r S e
  generalize H1 = H at R ⊢
  have hv := R.kp _ (List.mem_cons_self ..)
  have hv0 : At K (hid M H) v (.tuple ds) := hv
  cases hv0 with
  | @tup a xs _ ha hxs =>
    refine ⟨a, rfl, ⟨xs, same_t hid_same ha⟩, fun i m σ H => m = ds.length - i ∧ i ≤ ds.length ∧ ∃ M s ρ, Rl K M0 H0 ((.ref a, .tuple ds) :: F) M s ρ σ H ∧ I i ρ s, ⟨_, rfl, Nat.zero_le _, M, _, _, R, h0⟩, ?_⟩
    rintro i m σ H ⟨rfl, hi, M, s, ρ, R, hI⟩
    have hv := R.kp _ (List.mem_cons_self ..)
    have hv0 : At K (hid M H) (.ref a) (.tuple ds) := hv
    cases hv0 with
    | @tup _ xs _ ha hxs =>
      have hS : SqT K H a xs := same_t hid_same ha
      by_cases c : i < ds.length
      · obtain ⟨w, hw, rw_⟩ := hxs.get (List.getElem?_eq_getElem c)
        refine .inr ⟨⟨xs, w, hS, hw⟩, fun σ H => ∃ M s ρ, Rl K M0 H0 ((.ref a, .tuple ds) :: F) M s ρ σ H ∧ I (i + 1) ρ s, fun σ' H' ⟨M, s, ρ, R, hI⟩ => ⟨ds.length - (i + 1), by omega, rfl, by omega, M, s, ρ, R, hI⟩, fun x H' ⟨e, hx⟩ => ?_⟩
        subst e
        have ex : x = w := Option.some.inj ((hx xs hS).symm.trans hw)
        subst ex
        refine hb _ (List.getElem_mem c) _ _ _ M s ρ σ _ _ _ R rw_ fun σ' R' => ?_
        exact hs (.ref a) i _ ρ s _ (List.getElem?_eq_getElem c) hI (fun ρ2 s2 h2 M σ H R => ⟨M, s2, ρ2, R, h2⟩) M _ _ R'
      · have e : i = ds.length := by omega
        subst e
        exact .inl ⟨⟨xs, hS, by rw [hxs.len]; exact Nat.le_refl _⟩, hd ρ s hI M σ H R.less⟩
end
end Pw
namespace Pw
open PySem L2 StX
section
variable {X : Cx} {K : Fg} {ρ ρ' : En} {s s1 s2 s3 : Sto} {x y z : Dx} {xs : List Dx} {te tl tl1 : TE} {tas ta : TA} {tb : TS} {n m l : Nat} {M0 M : List Addr} {H0 H H1 H2 : Hp} {F : Kp} {D : Ends} {i j : Int} {ds fs es : List PyData} {e : Expr}
/-! lcm -/
def rLcm : List V → Hp → VK → Prop := fun vs H Q => ∃ a b : Int, vs = [.int a, .int b] ∧ a.natAbs < 2 ^ 64 ∧ b.natAbs < 2 ^ 64 ∧ Q (.int ((Nat.lcm a.natAbs b.natAbs : Nat) : Int)) H
theorem cr_lcm : CallR X (.builtin "math.lcm") rLcm := by
  intro pins s σ H vs us Q I r h
  obtain ⟨a, b, rfl, ha, hb, q⟩ := h
  obtain ⟨t, u, rfl⟩ := Vals.int2 r
  exact PySem.W.mc_lcm ha hb fun _ => ⟨.int _, H, I.tok _, ⟨_, rfl⟩, q⟩
theorem o_lcm (hi : i.natAbs < 2 ^ 64) (hj : j.natAbs < 2 ^ 64) : OpC K rLcm [.d (.int i), .d (.int j)] s (.d (.int ((Nat.lcm i.natAbs j.natAbs : Nat) : Int))) s := fun M H vs S r Q q => by
  cases r with
  | cons h t =>
    cases t with
    | cons h2 t =>
      cases t
      cases h; cases h2
      exact ⟨i, j, rfl, hi, hj, q.here S (.int _)⟩
/-! any -/
theorem cbk_any (hc : X.calm = true) (hK : X.K = K := by rfl) : CallR X (.builtin "any") (rAny K) := hK ▸ cr_any hc
theorem o_any {bs : List Bool} : OpC K (rAny K) [.d (.list (bs.map PyData.bool))] s (.d (.bool (bs.any id))) s := fun M H vs S r Q q => by
  cases r with
  | cons h t =>
    cases t
    cases h with
    | lst h a =>
      have e := AtAll.bls a
      subst e
      exact ⟨_, bs, rfl, SqL.of (hid_some h).2, q.here S (.bl _)⟩
/-! b in a list of truths -/
theorem in_bls (b : Bool) : ∀ bs : List Bool, inV (.bl b) (bs.map V.bl) = bs.any (· == b)
  | [] => rfl
  | c :: bs => by
    have := in_bls b bs
    unfold inV at this ⊢
    rw [List.map_cons, List.any_cons, this, List.any_cons]
    congr 1
theorem flat_bls : ∀ bs : List Bool, (bs.map V.bl).all flatV = true
  | [] => rfl
  | c :: bs => by rw [List.map_cons, List.all_cons, flat_bls bs]; rfl
theorem opb_in (hK : X.K = K := by rfl) : OpR X (compareOp .In) (rIn K false) := hK ▸ op_in_seq
theorem o_boolIn {b : Bool} {bs : List Bool} : Op2 K (rIn K false) (.d (.bool b)) (.d (.list (bs.map PyData.bool))) s (.d (.bool (bs.any (· == b)))) s := fun M H v w So r1 r2 Q q => by
  cases r1
  cases r2 with
  | lst h a =>
    have e := AtAll.bls a
    subst e
    have g := q.here So (.bl (bs.any (· == b)))
    rw [← in_bls] at g
    exact ⟨_, _, rfl, .inl (SqL.of (hid_some h).2), rfl, flat_bls bs, g⟩
/-! tuple(t), t a tuple -/
theorem o_tupT : OpC K (rTupOf K) [.d (.tuple ds)] s (.d (.tuple ds)) s := fun M H vs S r Q q => by
  cases r with
  | cons h t =>
    cases t
    have h' : At K (hid M H) _ (.tuple ds) := h
    cases h' with
    | tup hs a => exact ⟨_, _, rfl, .inr ⟨same_t hid_same hs, q.here S (.tup hs a)⟩⟩
/-! [*t, ..] -/
theorem rxs_map : ∀ {vs : List V} {ds : List PyData}, AtAll K (hid M H) vs ds → RXs K M H vs (ds.map Dx.d)
  | _, [], .nil => .nil
  | _, _ :: _, .cons h t => .cons h (rxs_map t)
theorem rxs_app : ∀ {vs ws : List V} {xs ys : List Dx}, RXs K M H vs xs → RXs K M H ws ys → RXs K M H (vs ++ ws) (xs ++ ys)
  | [], _, [], _, .nil, h => h
  | _ :: _, _, _ :: _, _, .cons h t, h2 => .cons h (rxs_app t h2)
theorem eva_star (h : Ev K te ρ s (.d (.tuple ds)) s1) (h2 : Eva K ta ρ s1 xs s2) : Eva K (tStar K te ta) ρ s (ds.map Dx.d ++ xs) s2 := fun M σ H S R Q q =>
  h M σ H S R _ fun v H1 e1 S1 r1 => by
    have r0 : At K (hid M H1) v (.tuple ds) := r1
    cases r0 with
    | @tup a vs _ ha hvs =>
      exact ⟨a, vs, rfl, .inl (same_t hid_same ha), h2 M σ H1 S1 (R.mono e1) _ fun ws H2 e2 S2 r2 => q (vs ++ ws) H2 (e1.trans e2) S2 (rxs_app ((rxs_map hvs).mono e2) r2)⟩
/-! binders -/
theorem pgk_unl {es : List Expr} {k : Nat} {pos : Pos} {t : TGs} (n : Nat) (hc : X.calm = true) (h : PGs X es t) (hK : X.K = K := by rfl) (hn : (assignEach es X.env).length = n := by rfl) (hst : (assignEach es X.env).findIdx? (·.1) = none := by rfl) : PG X (.Tuple es k pos) (gUnl K n t) := by
  subst hK hn
  exact pg_unl hc h rfl hst
theorem gb_unl3 {g1 g2 g3 : TG} {d1 d2 d3 : PyData} {b1 b2 b3 : En → En} (h1 : Gb K g1 d1 b1) (h2 : Gb K g2 d2 b2) (h3 : Gb K g3 d3 b3) : Gb K (gUnl K 3 (gCons g1 (gCons g2 (gCons g3 gNil)))) (.list [d1, d2, d3]) (fun ρ => b3 (b2 (b1 ρ))) := fun M0 H0 F M s ρ σ H v Q R a q => by
  cases a with
  | lst hs a =>
    cases a with
    | cons a1 a =>
      cases a with
      | cons a2 a =>
        cases a with
        | cons a3 a =>
          cases a
          refine ⟨_, _, rfl, SqL.of (hid_some hs).2, rfl, _, _, rfl, h1 M0 H0 F M s ρ σ H _ _ R a1 fun σ1 R1 => ⟨_, _, rfl, h2 M0 H0 F M s _ σ1 H _ _ R1 a2 fun σ2 R2 => ⟨_, _, rfl, h3 M0 H0 F M s _ σ2 H _ _ R2 a3 fun σ3 R3 => ⟨rfl, q σ3 R3⟩⟩⟩⟩
theorem gb_tup5 {g1 g2 g3 g4 g5 : TG} {d1 d2 d3 d4 d5 : PyData} {b1 b2 b3 b4 b5 : En → En} (h1 : Gb K g1 d1 b1) (h2 : Gb K g2 d2 b2) (h3 : Gb K g3 d3 b3) (h4 : Gb K g4 d4 b4) (h5 : Gb K g5 d5 b5) : Gb K (gTup K 5 (gCons g1 (gCons g2 (gCons g3 (gCons g4 (gCons g5 gNil)))))) (.tuple [d1, d2, d3, d4, d5]) (fun ρ => b5 (b4 (b3 (b2 (b1 ρ))))) := fun M0 H0 F M s ρ σ H v Q R a q => by
  cases a with
  | tup hs a =>
    cases a with
    | cons a1 a =>
      cases a with
      | cons a2 a =>
        cases a with
        | cons a3 a =>
          cases a with
          | cons a4 a =>
            cases a with
            | cons a5 a =>
              cases a
              refine ⟨_, _, rfl, same_t hid_same hs, rfl, _, _, rfl, h1 M0 H0 F M s ρ σ H _ _ R a1 fun σ1 R1 => ⟨_, _, rfl, h2 M0 H0 F M s _ σ1 H _ _ R1 a2 fun σ2 R2 => ⟨_, _, rfl, h3 M0 H0 F M s _ σ2 H _ _ R2 a3 fun σ3 R3 => ⟨_, _, rfl, h4 M0 H0 F M s _ σ3 H _ _ R3 a4 fun σ4 R4 => ⟨_, _, rfl, h5 M0 H0 F M s _ σ4 H _ _ R4 a5 fun σ5 R5 => ⟨rfl, q σ5 R5⟩⟩⟩⟩⟩⟩
/-- a, (b, ..) = e -/
theorem w_asgG {g : TG} {d : PyData} {b : En → En} (h : Ev K te ρ s (.d d) s1) (hb : Gb K g d b) (k : W K M0 H0 F D.nx (b ρ) s1) : W K M0 H0 F (tAsg te g D) ρ s := fun M σ H R =>
  h M σ H R.so R.re _ fun v H1 e S r => hb M0 H0 F M _ _ _ H1 v _ (R.step e S) r fun σ' R' => k M σ' H1 R'
/-! [e for x, y in xs], xs a list or a tuple of pairs -/
abbrev prs (ps : List (PyData × PyData)) : List PyData := ps.map fun p => .tuple [p.1, p.2]
theorem evn_lcP {S : Nat → Sto} {ps : List (PyData × PyData)} (h : Ev K tl ρ s (.d (.list (prs ps))) (S 0)) (hl : es.length = ps.length) (hz : es.length ≤ 1000000)
    (he : ∀ (i : Nat) p e, ps[i]? = some p → es[i]? = some e → Ev K te ((ρ.set n (some (.d p.1))).set m (some (.d p.2))) (S i ++ [es.take i]) (.d e) (S (i + 1) ++ [es.take i])) : EvN K (tLc (iList K tl) (gTup K 2 (gCons (gName n) (gCons (gName m) gNil))) tYes te [n, m]) ρ s es (S ps.length) := fun M σ H So0 Re Q q => by
  refine h M σ H So0 Re _ fun v H1 e1 S1 r1 => ?_
  have r0 : At K (hid M H1) v (.list (prs ps)) := r1
  cases r0 with
  | @lst a vs _ ha hvs =>
    refine ⟨a, rfl, ⟨vs, SqL.of (hid_some ha).2⟩, fun A hA => ?_⟩
    have src : ∀ {i H}, Lc K M H1 S es A σ ρ [(.ref a, .list (prs ps))] i H → ∃ vs, SqL K H a vs ∧ AtAll K (hid (M ++ [A]) H) vs (prs ps) := fun {i H} L => by
      have := L.sr _ (List.mem_cons_self ..)
      have h2 : At K (hid (M ++ [A]) H) (.ref a) (.list (prs ps)) := this
      cases h2 with
      | lst h3 h4 => exact ⟨_, SqL.of (hid_some h3).2, h4⟩
    refine lc_any (J := Itl K a) (N := ps.length) (Lc K M H1 S es A σ ρ [(.ref a, .list (prs ps))]) (Lc.start S1 (Re.mono e1) (fun q hq => ?_) hA) (fun i H hi L => ?_) (fun H L => ?_) (fun i x H H' hi L hy => ?_) (fun H L => L.done hA hl e1 (back_none e1 S1 hA) q)
    · simp at hq
      subst hq
      exact r1
    · obtain ⟨vs, h1, h2⟩ := src L
      obtain ⟨w, hw, _⟩ := h2.get (show (prs ps)[i]? = some _ by rw [List.getElem?_map, List.getElem?_eq_getElem hi]; rfl)
      exact ⟨vs, w, h1, hw⟩
    · obtain ⟨vs, h1, h2⟩ := src L
      exact ⟨vs, h1, by rw [h2.len, List.length_map]; exact Nat.le_refl _⟩
    · obtain ⟨e, hx⟩ := hy
      subst e
      obtain ⟨vs, h1, h2⟩ := src L
      obtain ⟨w, hw, rw_⟩ := h2.get (show (prs ps)[i]? = some (.tuple [ps[i].1, ps[i].2]) by rw [List.getElem?_map, List.getElem?_eq_getElem hi]; rfl)
      have ex : x = w := Option.some.inj ((hx vs h1).symm.trans hw)
      subst ex
      have hie : i < es.length := by rw [hl]; exact hi
      cases rw_ with
      | tup hs a =>
        cases a with
        | cons a1 a =>
          cases a with
          | cons a2 a =>
            cases a
            refine ⟨_, _, rfl, same_t hid_same hs, rfl, _, _, rfl, _, _, rfl, rfl, wipe2, ?_⟩
            unfold tYes
            dsimp only
            rw [if_pos rfl, wipe2s]
            refine he i _ _ (List.getElem?_eq_getElem hi) (List.getElem?_eq_getElem hie) (M ++ [A]) _ _ L.so ((L.re.set (x := .d _) a1).set (x := .d _) a2) _ fun y H4 e4 S4 r4 => ?_
            exact L.item hA (List.getElem?_eq_getElem hie) e4 S4 r4 hz
theorem evn_lcQ {S : Nat → Sto} {ps : List (PyData × PyData)} (h : Ev K tl ρ s (.d (.tuple (prs ps))) (S 0)) (hl : es.length = ps.length) (hz : es.length ≤ 1000000)
    (he : ∀ (i : Nat) p e, ps[i]? = some p → es[i]? = some e → Ev K te ((ρ.set n (some (.d p.1))).set m (some (.d p.2))) (S i ++ [es.take i]) (.d e) (S (i + 1) ++ [es.take i])) : EvN K (tLc (iTup K tl) (gTup K 2 (gCons (gName n) (gCons (gName m) gNil))) tYes te [n, m]) ρ s es (S ps.length) := fun M σ H So0 Re Q q => by
  refine h M σ H So0 Re _ fun v H1 e1 S1 r1 => ?_
  have r0 : At K (hid M H1) v (.tuple (prs ps)) := r1
  cases r0 with
  | @tup a vs _ ha hvs =>
    refine ⟨a, rfl, ⟨vs, same_t hid_same ha⟩, fun A hA => ?_⟩
    have src : ∀ {i H}, Lc K M H1 S es A σ ρ [(.ref a, .tuple (prs ps))] i H → ∃ vs, SqT K H a vs ∧ AtAll K (hid (M ++ [A]) H) vs (prs ps) := fun {i H} L => by
      have := L.sr _ (List.mem_cons_self ..)
      have h2 : At K (hid (M ++ [A]) H) (.ref a) (.tuple (prs ps)) := this
      cases h2 with
      | tup h3 h4 => exact ⟨_, same_t hid_same h3, h4⟩
    refine lc_any (J := Itt K a) (N := ps.length) (Lc K M H1 S es A σ ρ [(.ref a, .tuple (prs ps))]) (Lc.start S1 (Re.mono e1) (fun q hq => ?_) hA) (fun i H hi L => ?_) (fun H L => ?_) (fun i x H H' hi L hy => ?_) (fun H L => L.done hA hl e1 (back_none e1 S1 hA) q)
    · simp at hq
      subst hq
      exact r1
    · obtain ⟨vs, h1, h2⟩ := src L
      obtain ⟨w, hw, _⟩ := h2.get (show (prs ps)[i]? = some _ by rw [List.getElem?_map, List.getElem?_eq_getElem hi]; rfl)
      exact ⟨vs, w, h1, hw⟩
    · obtain ⟨vs, h1, h2⟩ := src L
      exact ⟨vs, h1, by rw [h2.len, List.length_map]; exact Nat.le_refl _⟩
    · obtain ⟨e, hx⟩ := hy
      subst e
      obtain ⟨vs, h1, h2⟩ := src L
      obtain ⟨w, hw, rw_⟩ := h2.get (show (prs ps)[i]? = some (.tuple [ps[i].1, ps[i].2]) by rw [List.getElem?_map, List.getElem?_eq_getElem hi]; rfl)
      have ex : x = w := Option.some.inj ((hx vs h1).symm.trans hw)
      subst ex
      have hie : i < es.length := by rw [hl]; exact hi
      cases rw_ with
      | tup hs a =>
        cases a with
        | cons a1 a =>
          cases a with
          | cons a2 a =>
            cases a
            refine ⟨_, _, rfl, same_t hid_same hs, rfl, _, _, rfl, _, _, rfl, rfl, wipe2, ?_⟩
            unfold tYes
            dsimp only
            rw [if_pos rfl, wipe2s]
            refine he i _ _ (List.getElem?_eq_getElem hi) (List.getElem?_eq_getElem hie) (M ++ [A]) _ _ L.so ((L.re.set (x := .d _) a1).set (x := .d _) a2) _ fun y H4 e4 S4 r4 => ?_
            exact L.item hA (List.getElem?_eq_getElem hie) e4 S4 r4 hz
/-! [e for x in ds for y in fs], both tuples -/
theorem RE.none {σ : L2.St} (h : RE K M H σ ρ) : RE K M H (σ.set n none) (ρ.set n none) := by
  refine ⟨by simpa using h.len, fun k y hy => ?_⟩
  by_cases c : k = n
  · subst c
    by_cases hj : k < ρ.length
    · rw [List.getElem?_set_self hj] at hy
      cases hy
    · rw [List.getElem?_eq_none (by rw [List.length_set]; omega)] at hy
      cases hy
  · rw [List.getElem?_set_ne (fun e => c e.symm)] at hy ⊢
    exact h.at_ k y hy
theorem Lc.move {S : Nat → Sto} {A : Addr} {σ : L2.St} {src src' : List (V × PyData)} {i : Nat} (L : Lc K M H1 S es A σ ρ src i H) (hA : H1 A = none) (e2 : Same (hid (M ++ [A]) H) (hid (M ++ [A]) H2)) (hS : So K (M ++ [A]) (S i ++ [es.take i]) H2) (hq : ∀ q ∈ src', At K (hid (M ++ [A]) H2) q.1 q.2) : Lc K M H1 S es A σ ρ src' i H2 := by
  refine ⟨hS, ?_, L.re.mono e2, hq⟩
  intro a o h
  obtain ⟨c, h'⟩ := hid_some (L.sm a o h)
  have ne : a ≠ A := ne_of_none (hid_some h).2 hA
  have := e2 a o (by rw [hid_out (by simp [c, ne])]; exact h')
  rw [hid_out c]
  exact (hid_some this).2
theorem wipeA {σ : L2.St} {n m : Nat} {v : V} : wipe ((wipe σ [n, m]).set n (some v)) [n, m] = wipe σ [n, m] := by
  show ((((σ.set m none).set n none).set n (some v)).set m none).set n none = (σ.set m none).set n none
  refine List.ext_getElem? fun i => ?_
  simp only [List.getElem?_set, List.length_set]
  split <;> split <;> simp_all
theorem evn_lc2T (hnm : n ≠ m) (h : Ev K tl ρ s (.d (.tuple ds)) s) (h1 : ∀ d ∈ ds, ∀ s', Ev K tl1 ((ρ.set m none).set n (some (.d d))) (s ++ [s']) (.d (.tuple fs)) (s ++ [s']))
    (he : ∀ (i j : Nat) d f e, ds[i]? = some d → fs[j]? = some f → es[i * fs.length + j]? = some e → ∀ s', Ev K te (((ρ.set m none).set n (some (.d d))).set m (some (.d f))) (s ++ [s']) (.d e) (s ++ [s']))
    (hl : es.length = ds.length * fs.length) (hz : es.length ≤ 1000000) : EvN K (tLc2 (iTup K tl) (gName n) tYes (iTup K tl1) (gName m) tYes te [n, m] [m]) ρ s es s := fun M σ H So0 Re Q q => by
  refine h M σ H So0 Re _ fun v H1 e1 S1 r1 => ?_
  have r0 : At K (hid M H1) v (.tuple ds) := r1
  cases r0 with
  | @tup a vs _ ha hvs =>
    refine ⟨a, rfl, ⟨vs, same_t hid_same ha⟩, fun A hA => ?_⟩
    have L0 : Lc K M H1 (fun _ => s) es A σ ρ [(.ref a, .tuple ds)] 0 (upd H1 A (.lst [])) := Lc.start S1 (Re.mono e1) (fun q hq => by simp at hq; subst hq; exact r1) hA
    refine ⟨fun i k H => k = ds.length - i ∧ i ≤ ds.length ∧ Lc K M H1 (fun _ => s) es A σ ρ [(.ref a, .tuple ds)] (i * fs.length) H, ⟨ds.length, by simp, Nat.zero_le _, by rw [Nat.zero_mul]; exact L0⟩, ?_⟩
    rintro i k H ⟨rfl, hi, L⟩
    have sa := L.sr _ (List.mem_cons_self ..)
    have sa : At K (hid (M ++ [A]) H) (.ref a) (.tuple ds) := sa
    cases sa with
    | @tup _ us _ hus aus =>
      have hS : SqT K H a us := same_t hid_same hus
      by_cases c : i < ds.length
      · obtain ⟨w, hw, rw_⟩ := aus.get (List.getElem?_eq_getElem c)
        refine .inr ⟨⟨us, w, hS, hw⟩, fun H => Lc K M H1 (fun _ => s) es A σ ρ [(.ref a, .tuple ds)] ((i + 1) * fs.length) H, fun H' q => ⟨ds.length - (i + 1), by omega, rfl, c, q⟩, fun x H' ⟨e, hx⟩ => ?_⟩
        subst e
        have ex : x = w := Option.some.inj ((hx us hS).symm.trans hw)
        subst ex
        refine ⟨wipeA, ?_⟩
        unfold tYes
        dsimp only
        rw [if_pos rfl]
        have R2 : RE K (M ++ [A]) H' ((wipe σ [n, m]).set n (some x)) ((ρ.set m none).set n (some (.d ds[i]))) := by
          have := ((L.re.none (n := m)).none (n := n)).set (i := n) (x := .d ds[i]) rw_
          rw [List.set_set (l := ρ.set m none)] at this
          exact this
        refine h1 _ (List.getElem_mem c) (es.take (i * fs.length)) (M ++ [A]) _ _ L.so R2 _ fun v1 H4 e4 S4 r4 => ?_
        have r4' : At K (hid (M ++ [A]) H4) v1 (.tuple fs) := r4
        cases r4' with
        | @tup b ws _ hb hws =>
          have La : At K (hid (M ++ [A]) H4) (.ref a) (.tuple ds) := At.mono e4 _ _ (.tup hus aus)
          have L4 : Lc K M H1 (fun _ => s) es A σ ρ [(.ref a, .tuple ds), (.ref b, .tuple fs)] (i * fs.length) H4 := L.move hA e4 S4 (fun q hq => by
            simp at hq
            rcases hq with hq | hq
            · subst hq; exact La
            · subst hq; exact r4)
          have R4 := R2.mono e4
          refine ⟨b, rfl, ⟨ws, same_t hid_same hb⟩, fun j k H => k = fs.length - j ∧ j ≤ fs.length ∧ RE K (M ++ [A]) H ((wipe σ [n, m]).set n (some x)) ((ρ.set m none).set n (some (.d ds[i]))) ∧ Lc K M H1 (fun _ => s) es A σ ρ [(.ref a, .tuple ds), (.ref b, .tuple fs)] (i * fs.length + j) H, ⟨fs.length, by simp, Nat.zero_le _, R4, L4⟩, ?_⟩
          rintro j k H ⟨rfl, hj, R5, L5⟩
          have sb := L5.sr (.ref b, .tuple fs) (by simp)
          have sb : At K (hid (M ++ [A]) H) (.ref b) (.tuple fs) := sb
          cases sb with
          | @tup _ us2 _ hus2 aus2 =>
            have hS2 : SqT K H b us2 := same_t hid_same hus2
            by_cases c2 : j < fs.length
            · obtain ⟨w2, hw2, rw2⟩ := aus2.get (List.getElem?_eq_getElem c2)
              refine .inr ⟨⟨us2, w2, hS2, hw2⟩, fun H => RE K (M ++ [A]) H ((wipe σ [n, m]).set n (some x)) ((ρ.set m none).set n (some (.d ds[i]))) ∧ Lc K M H1 (fun _ => s) es A σ ρ [(.ref a, .tuple ds), (.ref b, .tuple fs)] (i * fs.length + (j + 1)) H, fun H' q => ⟨fs.length - (j + 1), by omega, rfl, c2, q⟩, fun y H' ⟨e, hy⟩ => ?_⟩
              subst e
              have ey : y = w2 := Option.some.inj ((hy us2 hS2).symm.trans hw2)
              subst ey
              refine ⟨wipe1, ?_⟩
              rw [if_pos rfl]
              have hie : i * fs.length + j < es.length := by
                rw [hl]
                have : (i + 1) * fs.length ≤ ds.length * fs.length := Nat.mul_le_mul_right _ c
                rw [Nat.add_mul] at this
                omega
              have R6 : RE K (M ++ [A]) H' ((wipe ((wipe σ [n, m]).set n (some x)) [m]).set m (some y)) (((ρ.set m none).set n (some (.d ds[i]))).set m (some (.d fs[j]))) := by
                rw [wipe1s]
                exact R5.set (x := .d _) rw2
              refine he i j _ _ _ (List.getElem?_eq_getElem c) (List.getElem?_eq_getElem c2) (List.getElem?_eq_getElem hie) (es.take (i * fs.length + j)) (M ++ [A]) _ _ L5.so R6 _ fun z H7 e7 S7 r7 => ?_
              obtain ⟨acc, g1, g2, g3⟩ := L5.item hA (List.getElem?_eq_getElem hie) e7 S7 r7 hz
              refine ⟨acc, g1, g2, ?_, g3⟩
              refine R5.mono ?_
              rw [hid_upd (by simp : A ∈ M ++ [A])]
              exact e7
            · have e : j = fs.length := by omega
              subst e
              refine .inl ⟨⟨us2, hS2, by rw [aus2.len]; exact Nat.le_refl _⟩, ?_⟩
              rw [Nat.add_mul, Nat.one_mul]
              exact L5.move hA (fun _ _ h => h) L5.so (fun q hq => L5.sr q (by simp at hq; subst hq; simp))
      · have e : i = ds.length := by omega
        subst e
        exact .inl ⟨⟨us, hS, by rw [aus.len]; exact Nat.le_refl _⟩, L.done hA hl e1 (back_none e1 S1 hA) q⟩
end
end Pw
namespace K47
open PySem L2 Pw
def topS (i : Nat) : Stmt := PySem.Challenge.pw_pegwishes_k47_cells_of_hoops_and_pegs.main.body.getD i (.Pass ⟨0, 0, 0, 0⟩)
abbrev s_floor_of : Stmt := topS 2
abbrev N_floor_of : List Str := ["one"]
theorem sc_floor_of : FnScope N_floor_of ["one"] (defScope s_floor_of) := ⟨rfl, rfl, rfl, by decide +kernel, rfl, by decide +kernel, by decide +kernel⟩
abbrev s_marks : Stmt := topS 4
abbrev N_marks : List Str := ["stroke", "cell"]
theorem sc_marks : FnScope N_marks ["stroke", "cell"] (defScope s_marks) := ⟨rfl, rfl, rfl, by decide +kernel, rfl, by decide +kernel, by decide +kernel⟩
abbrev s__cell_of : Stmt := topS 5
abbrev N__cell_of : List Str := ["place"]
theorem sc__cell_of : FnScope N__cell_of ["place"] (defScope s__cell_of) := ⟨rfl, rfl, rfl, by decide +kernel, rfl, by decide +kernel, by decide +kernel⟩
abbrev s__whole : Stmt := topS 6
abbrev N__whole : List Str := ["values", "many", "value", "top", "bottom"]
theorem sc__whole : FnScope N__whole ["values"] (defScope s__whole) := ⟨rfl, rfl, rfl, by decide +kernel, rfl, by decide +kernel, by decide +kernel⟩
abbrev s__string_marks : Stmt := topS 7
abbrev N__string_marks : List Str := ["stroke", "cell", "_", "start", "end", "many", "x", "y", "to_x", "to_y", "ends", "lows", "tops", "low", "top"]
theorem sc__string_marks : FnScope N__string_marks ["stroke", "cell"] (defScope s__string_marks) := ⟨rfl, rfl, rfl, by decide +kernel, rfl, by decide +kernel, by decide +kernel⟩
abbrev s__span : Stmt := topS 8
abbrev N__span : List Str := ["start", "run", "low", "many"]
theorem sc__span : FnScope N__span ["start", "run", "low", "many"] (defScope s__span) := ⟨rfl, rfl, rfl, by decide +kernel, rfl, by decide +kernel, by decide +kernel⟩
abbrev s__is_up_to : Stmt := topS 9
abbrev N__is_up_to : List Str := ["low", "top", "first", "second"]
theorem sc__is_up_to : FnScope N__is_up_to ["low", "top"] (defScope s__is_up_to) := ⟨rfl, rfl, rfl, by decide +kernel, rfl, by decide +kernel, by decide +kernel⟩
abbrev s__hoop_marks : Stmt := topS 10
abbrev N__hoop_marks : List Str := ["stroke", "cell", "_", "place", "r", "many", "x", "y", "reach", "corners", "near", "left", "low"]
theorem sc__hoop_marks : FnScope N__hoop_marks ["stroke", "cell"] (defScope s__hoop_marks) := ⟨rfl, rfl, rfl, by decide +kernel, rfl, by decide +kernel, by decide +kernel⟩
abbrev s__square : Stmt := topS 11
abbrev N__square : List Str := ["x", "y"]
theorem sc__square : FnScope N__square ["x", "y"] (defScope s__square) := ⟨rfl, rfl, rfl, by decide +kernel, rfl, by decide +kernel, by decide +kernel⟩
abbrev s__law_cell_at : Stmt := topS 13
abbrev N__law_cell_at : List Str := ["_law_script", "_law_k"]
theorem sc__law_cell_at : FnScope N__law_cell_at ["_law_script", "_law_k"] (defScope s__law_cell_at) := ⟨rfl, rfl, rfl, by decide +kernel, rfl, by decide +kernel, by decide +kernel⟩
abbrev s__law_box : Stmt := topS 14
abbrev N__law_box : List Str := ["_law_script", "_law_k", "_law_core"]
theorem sc__law_box : FnScope N__law_box ["_law_script", "_law_k"] (defScope s__law_box) := ⟨rfl, rfl, rfl, by decide +kernel, rfl, by decide +kernel, by decide +kernel⟩
abbrev s__law_take : Stmt := topS 15
abbrev N__law_take : List Str := ["_law_box_here", "_law_size", "_law_found", "_law_once", "_law_twice"]
theorem sc__law_take : FnScope N__law_take ["_law_box_here", "_law_size"] (defScope s__law_take) := ⟨rfl, rfl, rfl, by decide +kernel, rfl, by decide +kernel, by decide +kernel⟩
abbrev s__law_same : Stmt := topS 16
abbrev N__law_same : List Str := ["_law_found", "_law_due", "_law_here", "_law_there"]
theorem sc__law_same : FnScope N__law_same ["_law_found", "_law_due"] (defScope s__law_same) := ⟨rfl, rfl, rfl, by decide +kernel, rfl, by decide +kernel, by decide +kernel⟩
abbrev s__law_of : Stmt := topS 17
abbrev N__law_of : List Str := ["_law_box_here", "_law_some"]
theorem sc__law_of : FnScope N__law_of ["_law_box_here", "_law_some"] (defScope s__law_of) := ⟨rfl, rfl, rfl, by decide +kernel, rfl, by decide +kernel, by decide +kernel⟩
abbrev s__law_frac : Stmt := topS 18
abbrev N__law_frac : List Str := ["_law_top", "_law_under", "_law_big", "_law_small", "_law_sign"]
theorem sc__law_frac : FnScope N__law_frac ["_law_top", "_law_under"] (defScope s__law_frac) := ⟨rfl, rfl, rfl, by decide +kernel, rfl, by decide +kernel, by decide +kernel⟩
abbrev s__law_draw : Stmt := topS 19
abbrev N__law_draw : List Str := ["_law_box_here", "_law_top"]
theorem sc__law_draw : FnScope N__law_draw ["_law_box_here", "_law_top"] (defScope s__law_draw) := ⟨rfl, rfl, rfl, by decide +kernel, rfl, by decide +kernel, by decide +kernel⟩
abbrev s__law_ends : Stmt := topS 20
abbrev N__law_ends : List Str := ["_law_start", "_law_end", "_law_by", "_law_some", "_law_top", "_law_under", "_law_x", "_law_y", "_law_far_x", "_law_far_y", "_law_step_x", "_law_step_y", "_law_whole", "_law_spots", "_law_at", "_law_step", "_law_other", "_law_line", "_law_along", "_law_found", "_law_one", "_law_two"]
theorem sc__law_ends : FnScope N__law_ends ["_law_start", "_law_end"] (defScope s__law_ends) := ⟨rfl, rfl, rfl, by decide +kernel, rfl, by decide +kernel, by decide +kernel⟩
abbrev s__law_round : Stmt := topS 21
abbrev N__law_round : List Str := ["_law_start", "_law_size", "_law_spot", "_law_by", "_law_x", "_law_y", "_law_reach", "_law_some", "_law_right", "_law_up", "_law_flat", "_law_along", "_law_top", "_law_under"]
theorem sc__law_round : FnScope N__law_round ["_law_start", "_law_size", "_law_spot"] (defScope s__law_round) := ⟨rfl, rfl, rfl, by decide +kernel, rfl, by decide +kernel, by decide +kernel⟩
abbrev s__law_marked : Stmt := topS 22
abbrev N__law_marked : List Str := ["_law_mark", "_law_spot"]
theorem sc__law_marked : FnScope N__law_marked ["_law_mark", "_law_spot"] (defScope s__law_marked) := ⟨rfl, rfl, rfl, by decide +kernel, rfl, by decide +kernel, by decide +kernel⟩
abbrev s_law : Stmt := topS 23
abbrev N_law : List Str := ["_law_script", "_law_k", "_law_box_here", "_law_turn", "_law_start", "_law_size", "_law_some", "_law_step", "_law_x", "_law_y", "_law_spot", "_law_due", "_law_mark"]
theorem sc_law : FnScope N_law ["_law_script"] (defScope s_law) := ⟨rfl, rfl, rfl, by decide +kernel, rfl, by decide +kernel, by decide +kernel⟩
theorem bt_abs : bootBuiltins "abs" = some (.builtin "abs") := by decide +kernel
theorem bt_all : bootBuiltins "all" = some (.builtin "all") := by decide +kernel
theorem bt_any : bootBuiltins "any" = some (.builtin "any") := by decide +kernel
theorem bt_bool : bootBuiltins "bool" = some (.type "bool") := by decide +kernel
theorem bt_int : bootBuiltins "int" = some (.type "int") := by decide +kernel
theorem bt_isinstance : bootBuiltins "isinstance" = some (.builtin "isinstance") := by decide +kernel
theorem bt_len : bootBuiltins "len" = some (.builtin "len") := by decide +kernel
theorem bt_list : bootBuiltins "list" = some (.type "list") := by decide +kernel
theorem bt_max : bootBuiltins "max" = some (.builtin "max") := by decide +kernel
theorem bt_min : bootBuiltins "min" = some (.builtin "min") := by decide +kernel
theorem bt_range : bootBuiltins "range" = some (.type "range") := by decide +kernel
theorem bt_tuple : bootBuiltins "tuple" = some (.type "tuple") := by decide +kernel
theorem bt_zip : bootBuiltins "zip" = some (.type "zip") := by decide +kernel
structure Zx (mg : Str → Option Value) : Prop where
  z_abs : mg "abs" = none
  z_all : mg "all" = none
  z_any : mg "any" = none
  z_bool : mg "bool" = none
  z_int : mg "int" = none
  z_isinstance : mg "isinstance" = none
  z_len : mg "len" = none
  z_list : mg "list" = none
  z_max : mg "max" = none
  z_min : mg "min" = none
  z_range : mg "range" = none
  z_tuple : mg "tuple" = none
  z_zip : mg "zip" = none
  z_lcm : mg "lcm" = some (.builtin "math.lcm")
end K47
namespace Km
open PySem L2 Pw
/-! ### sizes -/
structure Sm (n : Nat) (i : Int) : Prop where
  lt : i.natAbs < 2 ^ n
theorem Sm.mono {n m : Nat} {i : Int} (h : Sm n i) (e : n ≤ m := by decide) : Sm m i := ⟨Nat.lt_of_lt_of_le h.lt (Nat.pow_le_pow_right (by decide) e)⟩
theorem Sm.mul {n m : Nat} {i j : Int} (h : Sm n i) (h' : Sm m j) : Sm (n + m) (i * j) := ⟨wide_lt h.lt h'.lt⟩
theorem Sm.add {n : Nat} {i j : Int} (h : Sm n i) (h' : Sm n j) : Sm (n + 1) (i + j) := ⟨by
  have h1 := h.lt
  have h2 := h'.lt
  have := Int.natAbs_add_le i j
  rw [Nat.pow_succ]
  omega⟩
theorem Sm.neg {n : Nat} {i : Int} (h : Sm n i) : Sm n (-i) := ⟨by
  rw [Int.natAbs_neg]
  exact h.lt⟩
theorem Sm.sub {n : Nat} {i j : Int} (h : Sm n i) (h' : Sm n j) : Sm (n + 1) (i - j) := by
  rw [Int.sub_eq_add_neg]
  exact h.add h'.neg
theorem Sm.le {n : Nat} {i j : Int} (h : Sm n j) (e : i.natAbs ≤ j.natAbs) : Sm n i := ⟨Nat.lt_of_le_of_lt e h.lt⟩
theorem Sm.of {n : Nat} {i : Int} (b : Nat) (h : i.natAbs ≤ b) (e : b < 2 ^ n := by decide) : Sm n i := ⟨Nat.lt_of_le_of_lt h e⟩
theorem cm_sm {n m : Nat} {i j : Int} (h : Sm n i) (h' : Sm m j) (hn : n ≤ 60000000 := by decide) (hm : m ≤ 60000000 := by decide) : CM i j := cm_big h.lt h'.lt hn hm
theorem cf_sm {n : Nat} {i j : Int} (h0 : j ≠ 0) (h : Sm n j) (hn : n ≤ 8999 := by decide) : CF i j := ⟨h0, by
  have := PySem.Flt.log2_lt_of (n := j.natAbs) (k := n + 1) (by omega) (Nat.lt_of_lt_of_le h.lt (Nat.pow_le_pow_right (by decide) (by omega)))
  omega⟩

/-! ### fractions -/
def sg (v : Int) : Int := if 0 < v then 1 else -1
/-- the two parts of u over v, lowered -/
def lwN (u v : Int) : Int := (sg v * u).fdiv ((Nat.gcd u.natAbs v.natAbs : Nat) : Int)
def lwD (u v : Int) : Int := ((v.natAbs : Nat) : Int).fdiv ((Nat.gcd u.natAbs v.natAbs : Nat) : Int)
theorem gcd_pos {u v : Int} (h : v ≠ 0) : 0 < ((Nat.gcd u.natAbs v.natAbs : Nat) : Int) := by
  have : 0 < Nat.gcd u.natAbs v.natAbs := Nat.gcd_pos_of_pos_right _ (by omega)
  omega
theorem fdiv_le {u g : Int} (h : 0 < g) : (u.fdiv g).natAbs ≤ u.natAbs := by
  rw [Int.fdiv_eq_ediv_of_nonneg u (by omega)]
  have h1 := Int.emod_nonneg u (show g ≠ 0 by omega)
  have h2 := Int.emod_lt_of_pos u h
  have h3 := Int.mul_ediv_add_emod u g
  by_cases c : 0 ≤ u
  · have h4 : 0 ≤ u / g := Int.ediv_nonneg c (by omega)
    have h5 : u / g ≤ u := Int.ediv_le_self _ c
    omega
  · have h4 : u / g < 0 := Int.ediv_neg_of_neg_of_pos (by omega) h
    have h6 : (g - 1) * 1 ≤ (g - 1) * (-(u / g)) := Int.mul_le_mul_of_nonneg_left (by omega) (by omega)
    have h7 : (g - 1) * (-(u / g)) = -(g * (u / g)) + u / g := by
      rw [Int.sub_mul, Int.one_mul, Int.mul_neg]
      omega
    omega
theorem sg_abs (v : Int) : (sg v).natAbs = 1 := by unfold sg; split <;> rfl
theorem lwN_le {u v : Int} (h : v ≠ 0) : (lwN u v).natAbs ≤ u.natAbs := by
  unfold lwN
  refine Nat.le_trans (fdiv_le (gcd_pos h)) ?_
  rw [Int.natAbs_mul, sg_abs]
  omega
theorem lwD_le {u v : Int} (h : v ≠ 0) : (lwD u v).natAbs ≤ v.natAbs := by
  unfold lwD
  refine Nat.le_trans (fdiv_le (gcd_pos h)) ?_
  omega
theorem lwD_pos {u v : Int} (h : v ≠ 0) : 0 < lwD u v := by
  unfold lwD
  have g := gcd_pos (u := u) h
  rw [Int.fdiv_eq_ediv_of_nonneg _ (by omega)]
  have d : Nat.gcd u.natAbs v.natAbs ∣ v.natAbs := Nat.gcd_dvd_right _ _
  obtain ⟨k, hk⟩ := d
  have hv : 0 < v.natAbs := by omega
  have k0 : 0 < k := by
    rcases Nat.eq_zero_or_pos k with z | z
    · subst z; omega
    · exact z
  generalize Nat.gcd u.natAbs v.natAbs = gg at *
  rw [hk]
  have e : ((gg * k : Nat) : Int) / (gg : Int) = (k : Int) := by
    rw [Int.natCast_mul, Int.mul_ediv_cancel_left _ (by omega)]
  rw [e]
  omega
/-- the program's way: by the shared part with the bottom's sign -/
theorem frac_N {u v : Int} (h : v ≠ 0) : u.fdiv (if v < 0 then -((Nat.gcd u.natAbs v.natAbs : Nat) : Int) else ((Nat.gcd u.natAbs v.natAbs : Nat) : Int)) = lwN u v := by
  have g := gcd_pos (u := u) h
  unfold lwN sg
  have d : (Nat.gcd u.natAbs v.natAbs : Int) ∣ u := by
    have := Nat.gcd_dvd_left u.natAbs v.natAbs
    exact Int.ofNat_dvd_left.mpr this
  obtain ⟨k, hk⟩ := d
  generalize ((Nat.gcd u.natAbs v.natAbs : Nat) : Int) = gg at *
  by_cases c : v < 0
  · rw [if_pos c, if_neg (by omega), hk]
    have e : gg * k = (-gg) * (-k) := by rw [Int.neg_mul_neg]
    have e2 : -1 * (gg * k) = gg * (-k) := by rw [Int.mul_neg, Int.neg_mul, Int.one_mul]
    rw [e2]
    conv => lhs; rw [e]
    rw [Int.mul_fdiv_cancel_left _ (by omega), Int.mul_fdiv_cancel_left _ (by omega)]
  · rw [if_neg c, if_pos (by omega), Int.one_mul]
theorem frac_D {u v : Int} (h : v ≠ 0) : v.fdiv (if v < 0 then -((Nat.gcd u.natAbs v.natAbs : Nat) : Int) else ((Nat.gcd u.natAbs v.natAbs : Nat) : Int)) = lwD u v := by
  have g := gcd_pos (u := u) h
  unfold lwD
  have d : (Nat.gcd u.natAbs v.natAbs : Int) ∣ v := by
    have := Nat.gcd_dvd_right u.natAbs v.natAbs
    exact Int.ofNat_dvd_left.mpr this
  obtain ⟨k, hk⟩ := d
  by_cases c : v < 0
  · rw [if_pos c]
    have e0 : ((v.natAbs : Nat) : Int) = -v := by omega
    rw [e0]
    generalize ((Nat.gcd u.natAbs v.natAbs : Nat) : Int) = gg at *
    subst hk
    have e : gg * k = (-gg) * (-k) := by rw [Int.neg_mul_neg]
    have e2 : -(gg * k) = gg * (-k) := by rw [Int.mul_neg]
    rw [e2]
    conv => lhs; rw [e]
    rw [Int.mul_fdiv_cancel_left _ (by omega), Int.mul_fdiv_cancel_left _ (by omega)]
  · rw [if_neg c]
    have e0 : ((v.natAbs : Nat) : Int) = v := by omega
    rw [e0]
/-- already lowered: it is itself -/
theorem lw_self {u v : Int} (h : 0 < v) : (lwN u v = u ∧ lwD u v = v) ↔ Nat.gcd u.natAbs v.natAbs = 1 := by
  have g := gcd_pos (u := u) (v := v) (by omega)
  constructor
  · rintro ⟨_, h2⟩
    unfold lwD at h2
    have e0 : ((v.natAbs : Nat) : Int) = v := by omega
    rw [e0, Int.fdiv_eq_ediv_of_nonneg _ (by omega)] at h2
    have d : (Nat.gcd u.natAbs v.natAbs : Int) ∣ v := Int.ofNat_dvd_left.mpr (Nat.gcd_dvd_right u.natAbs v.natAbs)
    have e := Int.ediv_mul_cancel d
    rw [h2] at e
    have : ((Nat.gcd u.natAbs v.natAbs : Nat) : Int) = 1 := by
      have e3 : v * ((Nat.gcd u.natAbs v.natAbs : Nat) : Int) = v * 1 := by rw [e, Int.mul_one]
      exact Int.eq_of_mul_eq_mul_left (by omega) e3
    omega
  · intro e
    unfold lwN lwD sg
    rw [e, if_pos h, Int.one_mul]
    have e0 : ((v.natAbs : Nat) : Int) = v := by omega
    rw [e0]
    exact ⟨by simp, by simp⟩

/-! ### the law's draws -/
structure Bx where
  x : Int
  y : Int
  z : Int
abbrev bxl (b : Bx) : List PyData := [.int b.x, .int b.y, .int b.z]
def once (b : Bx) : Int := ((b.y + 48271 * (b.z + 1)) * (39373 + (b.z + 1))).fmod 2147483647
def twice (b : Bx) : Int := ((once b + (b.z + 1) + b.y.fdiv 1000003) * ((once b).fmod 40009 + 7)).fmod 2147483629
def tkR (b : Bx) (n : Int) : Int := if 0 < b.x then b.x.fmod n else (((twice b * 48271 + once b).fmod 2147483587).fdiv 64).fmod n
def tkB (b : Bx) (n : Int) : Bx := if 0 < b.x then ⟨b.x.fdiv n, b.y, b.z⟩ else ⟨b.x, b.y, b.z + 1⟩
theorem fmod_r {a n : Int} (h : 0 < n) : 0 ≤ a.fmod n ∧ a.fmod n < n := by
  rw [Int.fmod_eq_emod_of_nonneg a (by omega)]
  exact ⟨Int.emod_nonneg _ (by omega), Int.emod_lt_of_pos _ h⟩
theorem tk_r {b : Bx} {n : Int} (h : 0 < n) : 0 ≤ tkR b n ∧ tkR b n < n := by
  unfold tkR
  split <;> exact fmod_r h
/-- the box has been asked so many times at most -/
def Bk (c : Nat) (b : Bx) : Prop := 0 ≤ b.z ∧ b.z ≤ (c : Int)
theorem Bk.next {c : Nat} {b : Bx} {n : Int} (h : Bk c b) : Bk (c + 1) (tkB b n) := by
  unfold Bk tkB at *
  split
  · exact ⟨h.1, by have := h.2; show b.z ≤ ((c + 1 : Nat) : Int); omega⟩
  · exact ⟨by have := h.1; show 0 ≤ b.z + 1; omega, by have := h.2; show b.z + 1 ≤ ((c + 1 : Nat) : Int); omega⟩
theorem Bk.mono {c d : Nat} {b : Bx} (h : Bk c b) (e : c ≤ d) : Bk d b := ⟨h.1, by have := h.2; omega⟩
end Km
namespace Km
open PySem L2 Pw
theorem gs {s : Sto} {l : Nat} {X Y : List PyData} (h : s[l]? = some Y) : (s.set l X)[l]? = some X := List.getElem?_set_self (List.getElem?_eq_some_iff.mp h).1
theorem cm_r {i j : Int} (h1 : -(2 ^ 64) < j) (h2 : j < 2 ^ 64) : CM i j := cm_mk (.inr ⟨h1, h2⟩)
theorem cm_l {i j : Int} (h1 : -(2 ^ 64) < i) (h2 : i < 2 ^ 64) : CM i j := cm_mk (.inl ⟨h1, h2⟩)
theorem cm_fm7 {i a : Int} : CM i (a.fmod 40009 + 7) := by
  have := fmod_r (a := a) (n := 40009) (by decide)
  exact cm_r (by omega) (by omega)
theorem cm_if {i : Int} {b : Bool} : CM i (if b then 1 else 0) := by
  cases b
  · exact cm_r (by decide) (by decide)
  · exact cm_r (by decide) (by decide)
theorem cf_c {i j : Int} (h : j ≠ 0) (h2 : j.natAbs < 2 ^ 30) : CF i j := cf_sm h (n := 30) ⟨h2⟩
theorem cast_fmod {p q : Nat} (h : 0 < q) : (p : Int).fmod (q : Int) = ((p % q : Nat) : Int) := by
  rw [Int.fmod_eq_emod_of_nonneg _ (by omega), Int.natCast_emod]
theorem abs_if (v : Int) : (if v < 0 then -v else v) = ((v.natAbs : Nat) : Int) := by
  split <;> omega
/-! ### data equal to themselves -/
mutual
theorem eqv_self : ∀ d : PyData, d.canLay0 = true → PyData.eqv d d = true
  | .none, _ => rfl
  | .bool b, _ => by simp [PyData.eqv]
  | .int i, _ => by simp [PyData.eqv]
  | .str x, _ => by simp [PyData.eqv]
  | .list xs, h => by
    simp only [PyData.eqv]
    exact eqvAll_self xs (by simpa [PyData.canLay0] using h)
  | .tuple xs, h => by
    simp only [PyData.eqv]
    exact eqvAll_self xs (by simpa [PyData.canLay0] using h)
  | .dict _, h => by simp [PyData.canLay0] at h
theorem eqvAll_self : ∀ ds : List PyData, PyData.canLayAll0 ds = true → PyData.eqvAll ds ds = true
  | [], _ => rfl
  | d :: ds, h => by
    have h' : d.canLay0 = true ∧ PyData.canLayAll0 ds = true := by simpa [PyData.canLayAll0] using h
    simp only [PyData.eqvAll, eqv_self d h'.1, eqvAll_self ds h'.2, Bool.and_self]
end
theorem lay_mem : ∀ {ds : List PyData} {i : Nat} {d : PyData}, PyData.canLayAll0 ds = true → ds[i]? = some d → d.canLay0 = true
  | e :: ds, 0, d, h, g => by
    cases g
    have h' : e.canLay0 = true ∧ PyData.canLayAll0 ds = true := by simpa [PyData.canLayAll0] using h
    exact h'.1
  | e :: ds, i + 1, d, h, g => by
    have h' : e.canLay0 = true ∧ PyData.canLayAll0 ds = true := by simpa [PyData.canLayAll0] using h
    exact lay_mem (ds := ds) (i := i) h'.2 g
theorem dep_mem : ∀ {ds : List PyData} {i : Nat} {d : PyData}, ds[i]? = some d → d.depth ≤ PyData.depthAll ds
  | e :: ds, 0, d, g => by
    cases g
    simp only [PyData.depthAll]
    exact Nat.le_max_left _ _
  | e :: ds, i + 1, d, g => by
    simp only [PyData.depthAll]
    exact Nat.le_trans (dep_mem (ds := ds) (i := i) g) (Nat.le_max_right _ _)
mutual
def nod : PyData → Nat
  | .list xs => nodAll xs
  | .tuple xs => nodAll xs
  | _ => 0
def nodAll : List PyData → Nat
  | [] => 0
  | x :: xs => nod x + 1 + nodAll xs
end
theorem nod_len : ∀ ds : List PyData, ds.length ≤ nodAll ds
  | [] => Nat.le_refl _
  | d :: ds => by
    have := nod_len ds
    simp only [List.length_cons, nodAll]
    omega
theorem nod_mem : ∀ {ds : List PyData} {i : Nat} {d : PyData}, ds[i]? = some d → nod d ≤ nodAll ds
  | e :: ds, 0, d, g => by
    cases g
    simp only [nodAll]
    omega
  | e :: ds, i + 1, d, g => by
    have := nod_mem (ds := ds) (i := i) g
    simp only [nodAll]
    omega
theorem shaped_of {d : PyData} (h : d.canLay0 = true) (h2 : d.depth ≤ 64) : SeqAt.shaped d = true := by
  unfold SeqAt.shaped
  rw [h, decide_eq_true h2, Bool.and_self]
theorem all_true {α : Type} (ds : List α) : (ds.map fun _ => true).all id = true := by
  induction ds with
  | nil => rfl
  | cons d ds ih => simpa using ih
/-! ### the law's box -/
def cell (ns : List Int) (k : Int) : Int := if k < (ns.length : Int) then (ns[k.toNat]?).getD 0 else 0
def mkB (c k : Int) : Bx := ⟨(if c < 0 then -c else c) * (if decide ((10 : Int) ^ (18 : Int).toNat ≤ (if c < 0 then -c else c)) = true then 1 else 0), c.fmod 2305843009213693951 + 39373 * k + 17, 0⟩
theorem atI_cell {ns : List Int} {k : Int} (h0 : 0 ≤ k) (h : k < (ns.length : Int)) : atI ns k = some (cell ns k) := by
  unfold cell
  rw [if_pos h]
  have e : k = ((k.toNat : Nat) : Int) := (Int.toNat_of_nonneg h0).symm
  have hl : k.toNat < ns.length := by omega
  have h3 : ns[k.toNat]? = some ns[k.toNat] := List.getElem?_eq_getElem hl
  rw [h3]
  show atI ns k = some ns[k.toNat]
  conv => lhs; rw [e]
  exact atI_nat h3
theorem bk_mk {c k : Int} : Bk 0 (mkB c k) := ⟨Int.le_refl _, Int.le_refl _⟩
/-! ### draws -/
def drN (b : Bx) (n : Int) : Int := tkR b (2 * n + 1) - n
def drD (b : Bx) (n : Int) : Int := (([1, 1, 1, 2, 3, 4] : List Int)[(tkR (tkB b (2 * n + 1)) 6).toNat]?).getD 1
def drB (b : Bx) (n : Int) : Bx := tkB (tkB b (2 * n + 1)) 6
theorem drN_le {b : Bx} {n : Int} (h : 0 ≤ n) : -n ≤ drN b n ∧ drN b n ≤ n := by
  have := tk_r (b := b) (n := 2 * n + 1) (by omega)
  unfold drN
  omega
theorem six_get : ∀ i : Nat, i < 6 → ∃ v : Int, ([1, 1, 1, 2, 3, 4] : List Int)[i]? = some v ∧ 1 ≤ v ∧ v ≤ 4
  | 0, _ => ⟨1, rfl, by decide, by decide⟩
  | 1, _ => ⟨1, rfl, by decide, by decide⟩
  | 2, _ => ⟨1, rfl, by decide, by decide⟩
  | 3, _ => ⟨2, rfl, by decide, by decide⟩
  | 4, _ => ⟨3, rfl, by decide, by decide⟩
  | 5, _ => ⟨4, rfl, by decide, by decide⟩
  | i + 6, h => absurd h (by omega)
theorem drD_le {b : Bx} {n : Int} : 1 ≤ drD b n ∧ drD b n ≤ 4 := by
  have := tk_r (b := tkB b (2 * n + 1)) (n := 6) (by decide)
  obtain ⟨v, h, h1, h2⟩ := six_get (tkR (tkB b (2 * n + 1)) 6).toNat (by omega)
  unfold drD
  rw [h]
  exact ⟨h1, h2⟩
theorem drD_at {b : Bx} {n : Int} : ([.int 1, .int 1, .int 1, .int 2, .int 3, .int 4] : List PyData)[(tkR (tkB b (2 * n + 1)) 6).toNat]? = some (.int (drD b n)) := by
  have := tk_r (b := tkB b (2 * n + 1)) (n := 6) (by decide)
  obtain ⟨v, h, h1, h2⟩ := six_get (tkR (tkB b (2 * n + 1)) 6).toNat (by omega)
  have e : ([.int 1, .int 1, .int 1, .int 2, .int 3, .int 4] : List PyData) = ([1, 1, 1, 2, 3, 4] : List Int).map PyData.int := rfl
  unfold drD
  rw [e, List.getElem?_map, h]
  rfl
theorem Bk.draw {c : Nat} {b : Bx} {n : Int} (h : Bk c b) : Bk (c + 2) (drB b n) := (h.next (n := 2 * n + 1)).next
end Km
namespace K47
open PySem L2 Pw Km
abbrev q2 (a b : Int) : PyData := .tuple [.int a, .int b]
abbrev lw (u v : Int) : PyData := .tuple [.int (lwN u v), .int (lwD u v)]
theorem sh2 {a b : Int} : SeqAt.shaped (q2 a b) = true := by rfl
theorem shI {a : Int} : SeqAt.shaped (.int a) = true := by rfl
inductive R_frac : Gr
  | mk {u v s} (h : v ≠ 0) (hu : Sm 4000 u) (hv : Sm 4000 v) : R_frac [.d (.int u), .d (.int v)] s (.d (lw u v)) s
theorem fr_mk {n m : Nat} {u v : Int} {s : Sto} (hu : Sm n u) (hv : Sm m v) (h : v ≠ 0) (hn : n ≤ 4000 := by decide) (hm : m ≤ 4000 := by decide) : R_frac [.d (.int u), .d (.int v)] s (.d (lw u v)) s := .mk h (hu.mono hn) (hv.mono hm)
section
local macro_rules | `(tactic| walk_at "sd") => `(tactic| first | rfl | assumption | exact Nat.le_of_ble_eq_true rfl | decide | omega | (walk_at "sd2"))
local macro_rules | `(tactic| walk_at "sd2") => `(tactic| first | exact cm_sm (by assumption) (by assumption) | exact cf_sm (by assumption) (by assumption) | ((with_reducible apply gs); (walk_at "sd")) | exact cm_fm7 | exact cm_if | exact cm_l (by omega) (by omega) | exact cm_r (by omega) (by omega) | exact cf_c (by omega) (by omega))
local macro_rules | `(tactic| walk_at "isi") => `(tactic| with_reducible first | exact kit_int | exact kit_bool | exact kit_tuple | exact kit_list | exact kit_str)
local macro_rules | `(tactic| walk_at "und") => `(tactic| with_reducible repeat (first | exact Und.nil | apply Und.cons))
local macro_rules | `(tactic| walk_at "op") => `(tactic| (first
  | with_reducible exact o_add | with_reducible exact o_minus | with_reducible exact o_lt | with_reducible exact o_gt | with_reducible exact o_le | with_reducible exact o_ge | with_reducible exact o_neg
  | with_reducible exact o_isN | with_reducible exact o_isntN | with_reducible exact o_isB | with_reducible exact o_isntB | with_reducible exact o_neS | with_reducible exact o_eqS
  | with_reducible exact o_abs | with_reducible exact o_intB | with_reducible exact o_min2 | with_reducible exact o_max2 | with_reducible exact o_lenL | with_reducible exact o_lenT | with_reducible exact o_lenC | with_reducible exact o_gcd
  | with_reducible apply o_ixT | with_reducible apply o_ixL | with_reducible apply o_ixM | with_reducible apply o_ixS | with_reducible apply o_lenM
  | with_reducible apply o_mul | with_reducible apply o_fdiv | with_reducible apply o_mod | with_reducible apply o_pow | with_reducible apply o_eq | with_reducible apply o_ne | with_reducible apply o_catT | with_reducible apply o_repr | with_reducible apply o_all) <;> walk_at "sd")
local macro_rules | `(tactic| walk_at "opn") => `(tactic| (first
  | with_reducible apply o_cat | with_reducible apply o_repI | with_reducible exact o_listT | with_reducible exact o_listL) <;> walk_at "sd")
local macro_rules | `(tactic| walk_at "ea") => `(tactic| first
  | with_reducible exact eva_nil
  | ((with_reducible apply eva_cons); (walk_at "ev"); (walk_at "ea")))
local macro_rules | `(tactic| walk_at "call") => `(tactic| fail)
local macro_rules | `(tactic| walk_at "evn") => `(tactic| first
  | ((with_reducible apply evn_lstU); (walk_at "ea"); (walk_at "und"); (walk_at "sd"))
  | ((with_reducible apply evn_op); (walk_at "ev"); (walk_at "ev"); (walk_at "opn"))
  | ((with_reducible apply evn_cb); (walk_at "ea"); (walk_at "opn"))
  | ((with_reducible apply evn_call); (walk_at "ea"); (walk_at "call")))
local macro_rules | `(tactic| walk_at "ev") => `(tactic| first
  | with_reducible exact ev_int | with_reducible exact ev_bl | with_reducible exact ev_non | with_reducible exact ev_str
  | ((with_reducible apply ev_var); rfl)
  | ((with_reducible apply ev_op); (walk_at "ev"); (walk_at "ev"); (walk_at "op"))
  | ((with_reducible apply ev_un); (walk_at "ev"); (walk_at "op"))
  | ((with_reducible apply ev_call); (walk_at "ea"); (walk_at "call"))
  | ((with_reducible apply ev_callD); (walk_at "ea"); (intro _ _; exact rxs_1); (walk_at "call"))
  | ((with_reducible apply ev_callK); (walk_at "ea"); rfl; (intro _ _ _ hh; first | exact rxs_swap2 hh | exact rxs_same1 hh); (walk_at "call"))
  | ((with_reducible apply ev_isi); (walk_at "ev"); (walk_at "isi"))
  | ((with_reducible apply ev_isi2); (walk_at "ev"); (walk_at "isi"); (walk_at "isi"))
  | ((with_reducible apply ev_cb); (walk_at "ea"); (walk_at "op"))
  | ((with_reducible apply ev_tupU); (walk_at "ea"); (walk_at "und"); (walk_at "sd"))
  | ((with_reducible apply ev_new); (walk_at "evn"))
  | ((with_reducible apply ev_slT); (walk_at "ev"); (walk_at "eo"); (walk_at "eo"))
  | ((with_reducible apply ev_andV); (walk_at "ev"); (intro _; walk_at "ev"); (intro _; rfl))
  | ((with_reducible apply ev_orV); (walk_at "ev"); (intro _; walk_at "ev"); (intro _; rfl))
  | ((with_reducible apply ev_notV); (walk_at "ev")))
local macro_rules | `(tactic| walk_at "eo") => `(tactic| first
  | with_reducible exact eo_none
  | ((with_reducible apply eo_some); (walk_at "ev")))
local macro_rules | `(tactic| walk_at "et") => `(tactic| first
  | ((with_reducible apply et_test); (walk_at "ev"))
  | ((with_reducible apply et_B); (walk_at "ev"))
  | ((with_reducible apply et_not); (walk_at "et"))
  | ((with_reducible apply et_and); (walk_at "et"); (intro _; walk_at "et"); (intro _; rfl))
  | ((with_reducible apply et_or); (walk_at "et"); (intro _; walk_at "et"); (intro _; rfl)))
local macro_rules | `(tactic| walk_at "w") => `(tactic| first
  | (with_reducible apply w_seq)
  | (with_reducible apply w_next)
  | ((with_reducible apply w_asg); (walk_at "ev"))
  | ((with_reducible apply w_ret); (walk_at "ev"))
  | ((with_reducible apply w_drop); (walk_at "ev"))
  | ((with_reducible apply w_par); (walk_at "ea"))
  | ((with_reducible apply w_tup2); (walk_at "ev"))
  | ((with_reducible apply w_tup3); (walk_at "ev"))
  | ((with_reducible apply w_setI); (walk_at "ev"); (walk_at "ev"); (walk_at "ev"); (walk_at "sd"); (walk_at "sd"))
  | ((with_reducible apply w_if); (walk_at "et")))

variable {P : Program} {w : World} {K : Pw.Fg} {mg : Str → Option Value} {base : Heap} {f : Addr} {fd : FuncData}
/-! ### floor_of, _cell_of -/
inductive R_floor : Gr
  | mk {a b s} (h : b ≠ 0) (hb : Sm 1000 b) : R_floor [.d (q2 a b)] s (.d (.int (a.fdiv b))) s
theorem ok_floor (G : Fun K "floor_of" "floor_of" s_floor_of f fd) : FnOk P w K mg base CX0 1 f fd ["one"] (spF K R_floor) := by
  refine G.ok sc_floor_of (spF_len fun xs s x s' h => by cases h; rfl) (fun cdv A outer s H vs Q E hr ⟨M, xs, st, x, st', h, So, rx, q⟩ => ?_)
  cases h with
  | @mk a b _ h hb =>
  refine ⟨_, (pss_one (ps_ret (pe_op op_fdivA (pe_ix (ixk (K := K)) (pv 0) (pe_int) (fun _ _ => rfl)) (pe_ix (ixk (K := K)) (pv 0) (pe_int) (fun _ _ => rfl))))), ?_⟩
  refine w_run So rx ?_
  try simp only [nox_K, cx_K, List.map_cons, List.map_nil]
  have q' := okr_0 q So.len
  have c1 : CF a b := cf_sm h hb
  walk_at "w"
  exact q'
inductive R_cellof : Gr
  | mk {a b c d s} (h : b ≠ 0) (hb : Sm 1000 b) (h' : d ≠ 0) (hd : Sm 1000 d) : R_cellof [.d (.tuple [q2 a b, q2 c d])] s (.d (q2 (a.fdiv b) (c.fdiv d))) s
section
local macro_rules | `(tactic| walk_at "call") => `(tactic| exact R_floor.mk (by assumption) (by assumption))
theorem ok_cellof (c_floor_of : Cb P w K mg base "floor_of" 1 [] (spF K R_floor)) (G : Fun K "_cell_of" "_cell_of" s__cell_of f fd) : FnOk P w K mg base CX0 2 f fd ["place"] (spF K R_cellof) := by
  refine G.ok sc__cell_of (spF_len fun xs s x s' h => by cases h; rfl) (fun cdv A outer s H vs Q E hr ⟨M, xs, st, x, st', h, So, rx, q⟩ => ?_)
  cases h with
  | @mk a b c d _ h hb h' hd =>
  refine ⟨_, (pss_one (ps_ret (pe_tup (pa_cons (pe_cb c_floor_of (hr.mono (by decide)) (by rfl) (pa_cons (pe_ix (ixk (K := K)) (pv 0) (pe_int) (fun _ _ => rfl)) pa_nil)) (pa_cons (pe_cb c_floor_of (hr.mono (by decide)) (by rfl) (pa_cons (pe_ix (ixk (K := K)) (pv 0) (pe_int) (fun _ _ => rfl)) pa_nil)) pa_nil))))), ?_⟩
  refine w_run So rx ?_
  try simp only [nox_K, cx_K, List.map_cons, List.map_nil]
  have q' := okr_0 q So.len
  walk_at "w"
  exact q'
end
/-! ### _square -/
inductive R_square : Gr
  | mk {x y s} (hx : Sm 1000 x) (hy : Sm 1000 y) : R_square [.d (.int x), .d (.int y)] s (.d (.int (x * x + y * y))) s
theorem ok_square (G : Fun K "_square" "_square" s__square f fd) : FnOk P w K mg base CX0 1 f fd ["x", "y"] (spF K R_square) := by
  refine G.ok sc__square (spF_len fun xs s x s' h => by cases h; rfl) (fun cdv A outer s H vs Q E hr ⟨M, xs, st, x, st', h, So, rx, q⟩ => ?_)
  cases h with
  | @mk x y _ hx hy =>
  refine ⟨_, (pss_one (ps_ret (pe_op (opk_plus (K := K)) (pe_op op_times (pv 0) (pv 0)) (pe_op op_times (pv 1) (pv 1))))), ?_⟩
  refine w_run So rx ?_
  try simp only [nox_K, cx_K, List.map_cons, List.map_nil]
  have q' := okr_0 q So.len
  walk_at "w"
  exact q'
end
end K47
namespace K47
open PySem L2 Pw Km
section
local macro_rules | `(tactic| walk_at "sd") => `(tactic| first | rfl | assumption | exact Nat.le_of_ble_eq_true rfl | decide | omega | (walk_at "sd2"))
local macro_rules | `(tactic| walk_at "sd2") => `(tactic| first | exact cm_sm (by assumption) (by assumption) | exact cf_sm (by assumption) (by assumption) | ((with_reducible apply gs); (walk_at "sd")) | exact cm_fm7 | exact cm_if | exact cm_l (by omega) (by omega) | exact cm_r (by omega) (by omega) | exact cf_c (by omega) (by omega))
local macro_rules | `(tactic| walk_at "isi") => `(tactic| with_reducible first | exact kit_int | exact kit_bool | exact kit_tuple | exact kit_list | exact kit_str)
local macro_rules | `(tactic| walk_at "und") => `(tactic| with_reducible repeat (first | exact Und.nil | apply Und.cons))
local macro_rules | `(tactic| walk_at "op") => `(tactic| (first
  | with_reducible exact o_add | with_reducible exact o_minus | with_reducible exact o_lt | with_reducible exact o_gt | with_reducible exact o_le | with_reducible exact o_ge | with_reducible exact o_neg
  | with_reducible exact o_isN | with_reducible exact o_isntN | with_reducible exact o_isB | with_reducible exact o_isntB | with_reducible exact o_neS | with_reducible exact o_eqS
  | with_reducible exact o_abs | with_reducible exact o_intB | with_reducible exact o_min2 | with_reducible exact o_max2 | with_reducible exact o_lenL | with_reducible exact o_lenT | with_reducible exact o_lenC | with_reducible exact o_gcd
  | with_reducible apply o_ixT | with_reducible apply o_ixL | with_reducible apply o_ixM | with_reducible apply o_ixS | with_reducible apply o_lenM
  | with_reducible apply o_mul | with_reducible apply o_fdiv | with_reducible apply o_mod | with_reducible apply o_pow | with_reducible apply o_eq | with_reducible apply o_ne | with_reducible apply o_catT | with_reducible apply o_repr | with_reducible apply o_all) <;> walk_at "sd")
local macro_rules | `(tactic| walk_at "opn") => `(tactic| (first
  | with_reducible apply o_cat | with_reducible apply o_repI | with_reducible exact o_listT | with_reducible exact o_listL) <;> walk_at "sd")
local macro_rules | `(tactic| walk_at "ea") => `(tactic| first
  | with_reducible exact eva_nil
  | ((with_reducible apply eva_cons); (walk_at "ev"); (walk_at "ea")))
local macro_rules | `(tactic| walk_at "call") => `(tactic| fail)
local macro_rules | `(tactic| walk_at "evn") => `(tactic| first
  | ((with_reducible apply evn_lstU); (walk_at "ea"); (walk_at "und"); (walk_at "sd"))
  | ((with_reducible apply evn_op); (walk_at "ev"); (walk_at "ev"); (walk_at "opn"))
  | ((with_reducible apply evn_cb); (walk_at "ea"); (walk_at "opn"))
  | ((with_reducible apply evn_call); (walk_at "ea"); (walk_at "call")))
local macro_rules | `(tactic| walk_at "ev") => `(tactic| first
  | with_reducible exact ev_int | with_reducible exact ev_bl | with_reducible exact ev_non | with_reducible exact ev_str
  | ((with_reducible apply ev_var); rfl)
  | ((with_reducible apply ev_op); (walk_at "ev"); (walk_at "ev"); (walk_at "op"))
  | ((with_reducible apply ev_un); (walk_at "ev"); (walk_at "op"))
  | ((with_reducible apply ev_call); (walk_at "ea"); (walk_at "call"))
  | ((with_reducible apply ev_callD); (walk_at "ea"); (intro _ _; exact rxs_1); (walk_at "call"))
  | ((with_reducible apply ev_callK); (walk_at "ea"); rfl; (intro _ _ _ hh; first | exact rxs_swap2 hh | exact rxs_same1 hh); (walk_at "call"))
  | ((with_reducible apply ev_isi); (walk_at "ev"); (walk_at "isi"))
  | ((with_reducible apply ev_isi2); (walk_at "ev"); (walk_at "isi"); (walk_at "isi"))
  | ((with_reducible apply ev_cb); (walk_at "ea"); (walk_at "op"))
  | ((with_reducible apply ev_tupU); (walk_at "ea"); (walk_at "und"); (walk_at "sd"))
  | ((with_reducible apply ev_new); (walk_at "evn"))
  | ((with_reducible apply ev_slT); (walk_at "ev"); (walk_at "eo"); (walk_at "eo"))
  | ((with_reducible apply ev_andV); (walk_at "ev"); (intro _; walk_at "ev"); (intro _; rfl))
  | ((with_reducible apply ev_orV); (walk_at "ev"); (intro _; walk_at "ev"); (intro _; rfl))
  | ((with_reducible apply ev_notV); (walk_at "ev")))
local macro_rules | `(tactic| walk_at "eo") => `(tactic| first
  | with_reducible exact eo_none
  | ((with_reducible apply eo_some); (walk_at "ev")))
local macro_rules | `(tactic| walk_at "et") => `(tactic| first
  | ((with_reducible apply et_test); (walk_at "ev"))
  | ((with_reducible apply et_B); (walk_at "ev"))
  | ((with_reducible apply et_not); (walk_at "et"))
  | ((with_reducible apply et_and); (walk_at "et"); (intro _; walk_at "et"); (intro _; rfl))
  | ((with_reducible apply et_or); (walk_at "et"); (intro _; walk_at "et"); (intro _; rfl)))
local macro_rules | `(tactic| walk_at "w") => `(tactic| first
  | (with_reducible apply w_seq)
  | (with_reducible apply w_next)
  | ((with_reducible apply w_asg); (walk_at "ev"))
  | ((with_reducible apply w_ret); (walk_at "ev"))
  | ((with_reducible apply w_drop); (walk_at "ev"))
  | ((with_reducible apply w_par); (walk_at "ea"))
  | ((with_reducible apply w_tup2); (walk_at "ev"))
  | ((with_reducible apply w_tup3); (walk_at "ev"))
  | ((with_reducible apply w_setI); (walk_at "ev"); (walk_at "ev"); (walk_at "ev"); (walk_at "sd"); (walk_at "sd"))
  | ((with_reducible apply w_if); (walk_at "et")))

variable {P : Program} {w : World} {K : Pw.Fg} {mg : Str → Option Value} {base : Heap} {f : Addr} {fd : FuncData}
/-! ### cells, the box, a draw -/
inductive R_cell : Gr
  | mk {ns k s} (hk : 0 ≤ k) : R_cell [.scr ns, .d (.int k)] s (.d (.int (cell ns k))) s
theorem ok_cell (Z : Zx mg) (G : Fun K "_law_cell_at" "_law_cell_at" s__law_cell_at f fd) : FnOk P w K mg base CX0 1 f fd ["_law_script", "_law_k"] (spF K R_cell) := by
  refine G.ok sc__law_cell_at (spF_len fun xs s x s' h => by cases h; rfl) (fun cdv A outer s H vs Q E hr ⟨M, xs, st, x, st', h, So, rx, q⟩ => ?_)
  cases h with
  | @mk ns k _ hk =>
  refine ⟨_, (pss_cons (ps_if (pt_cmpR op_ltA (pv 1) (pe_callB (cbk_len (K := K)) (by rfl) Z.z_len bt_len (pa_cons (pv 0) pa_nil)) (nomark _)) (pss_one (ps_ret (pe_ix (ixk (K := K)) (pv 0) (pv 1) (fun _ _ => rfl)))) pss_nil)
      (pss_one (ps_ret (pe_int)))), ?_⟩
  refine w_run So rx ?_
  try simp only [nox_K, cx_K, List.map_cons, List.map_nil]
  have q' := okr_0 q So.len
  iterate 2 (walk_at "w")
  · intro c
    have hc := of_decide_eq_true c
    have e := atI_cell hk hc
    walk_at "w"
    exact q'
  · intro c
    have hc := of_decide_eq_false c
    have e : cell ns k = 0 := if_neg hc
    iterate 2 (walk_at "w")
    exact q'.is (by rw [e])
inductive R_box : GrN
  | mk {ns k s} (hk : 0 ≤ k) : R_box [.scr ns, .d (.int k)] s (bxl (mkB (cell ns k) k)) s
theorem ok_box (Z : Zx mg) (c__law_cell_at : Cb P w K mg base "_law_cell_at" 1 [] (spF K R_cell)) (G : Fun K "_law_box" "_law_box" s__law_box f fd) : FnOk P w K mg base CX0 2 f fd ["_law_script", "_law_k"] (spN K R_box) := by
  refine G.ok sc__law_box (spN_len fun xs s x s' h => by cases h; rfl) (fun cdv A outer s H vs Q E hr ⟨M, xs, st, x, st', h, So, rx, q⟩ => ?_)
  cases h with
  | @mk ns k _ hk =>
  refine ⟨_, (pss_cons (ps_set (i := 2) sc__law_box.nd rfl (.inl rfl) (pe_cb c__law_cell_at (hr.mono (by decide)) (by rfl) (pa_cons (pv 0) (pa_cons (pv 1) pa_nil))))
      (pss_one (ps_ret (pe_lst (pa_cons (pe_op op_times (pe_callB cb_abs (by rfl) Z.z_abs bt_abs (pa_cons (pv 2) pa_nil)) (pe_callTy cb_int (by rfl) Z.z_int bt_int (pa_cons (pe_cmpR op_geA (pe_callB cb_abs (by rfl) Z.z_abs bt_abs (pa_cons (pv 2) pa_nil)) (pe_op op_powA (pe_int) (pe_int)) (nomark _)) pa_nil))) (pa_cons (pe_op (opk_plus (K := K)) (pe_op (opk_plus (K := K)) (pe_op op_modA (pv 2) (pe_int)) (pe_op op_times (pe_int) (pv 1))) (pe_int)) (pa_cons (pe_int) pa_nil))))))), ?_⟩
  refine w_run So rx ?_
  try simp only [nox_K, cx_K, List.map_cons, List.map_nil]
  walk_at "w"
  with_reducible apply w_asg
  · with_reducible apply ev_call
    · walk_at "ea"
    · exact .mk hk
  · have hp : CPow 10 18 := ⟨by decide, by decide, by decide⟩
    with_reducible apply w_retN
    · walk_at "evn"
    · exact So.len
    · exact q
inductive R_take : Gr
  | mk {l b n c s} (hl : s[l]? = some (bxl b)) (hn : 0 < n) (hn2 : n < 2 ^ 29) (hc : Bk c b) (hc2 : c ≤ 2 ^ 40) : R_take [.loc l, .d (.int n)] s (.d (.int (tkR b n))) (s.set l (bxl (tkB b n)))
theorem ok_take (G : Fun K "_law_take" "_law_take" s__law_take f fd) : FnOk P w K mg base CX0 1 f fd ["_law_box_here", "_law_size"] (spF K R_take) := by
  refine G.ok sc__law_take (spF_len fun xs s x s' h => by cases h; rfl) (fun cdv A outer s H vs Q E hr ⟨M, xs, st, x, st', h, So, rx, q⟩ => ?_)
  cases h with
  | @mk l b n c _ hl hn hn2 hc hc2 =>
  refine ⟨_, (pss_cons (ps_if (pt_cmpR op_gtA (pe_ix (ixk (K := K)) (pv 0) (pe_int) (fun _ _ => rfl)) (pe_int) (nomark _)) (pss_cons (ps_set (i := 2) sc__law_take.nd rfl (.inl rfl) (pe_op op_modA (pe_ix (ixk (K := K)) (pv 0) (pe_int) (fun _ _ => rfl)) (pv 1)))
      (pss_cons (ps_asg (pe_op op_fdivA (pe_ix (ixk (K := K)) (pv 0) (pe_int) (fun _ _ => rfl)) (pv 1)) (pg_sub (pv 0) (pe_int) set_list))
      (pss_one (ps_ret (pv 2))))) pss_nil)
      (pss_cons (ps_asg (pe_op (opk_plus (K := K)) (pe_ix (ixk (K := K)) (pv 0) (pe_int) (fun _ _ => rfl)) (pe_int)) (pg_sub (pv 0) (pe_int) set_list))
      (pss_cons (ps_set (i := 3) sc__law_take.nd rfl (.inl rfl) (pe_op op_modA (pe_op op_times (pe_op (opk_plus (K := K)) (pe_ix (ixk (K := K)) (pv 0) (pe_int) (fun _ _ => rfl)) (pe_op op_times (pe_int) (pe_ix (ixk (K := K)) (pv 0) (pe_int) (fun _ _ => rfl)))) (pe_op (opk_plus (K := K)) (pe_int) (pe_ix (ixk (K := K)) (pv 0) (pe_int) (fun _ _ => rfl)))) (pe_int)))
      (pss_cons (ps_set (i := 4) sc__law_take.nd rfl (.inl rfl) (pe_op op_modA (pe_op op_times (pe_op (opk_plus (K := K)) (pe_op (opk_plus (K := K)) (pv 3) (pe_ix (ixk (K := K)) (pv 0) (pe_int) (fun _ _ => rfl))) (pe_op op_fdivA (pe_ix (ixk (K := K)) (pv 0) (pe_int) (fun _ _ => rfl)) (pe_int))) (pe_op (opk_plus (K := K)) (pe_op op_modA (pv 3) (pe_int)) (pe_int))) (pe_int)))
      (pss_one (ps_ret (pe_op op_modA (pe_op op_fdivA (pe_op op_modA (pe_op (opk_plus (K := K)) (pe_op op_times (pv 4) (pe_int)) (pv 3)) (pe_int)) (pe_int)) (pv 1)))))))), ?_⟩
  refine w_run So rx ?_
  try simp only [nox_K, cx_K, List.map_cons, List.map_nil]
  have q' := okr_0 q (by rw [List.length_set]; exact So.len)
  obtain ⟨z0, z1⟩ := hc
  unfold tkR tkB at q'
  iterate 2 (walk_at "w")
  · intro c
    rw [if_pos (of_decide_eq_true c), if_pos (of_decide_eq_true c)] at q'
    iterate 5 (walk_at "w")
    exact q'
  · intro c
    rw [if_neg (of_decide_eq_false c), if_neg (of_decide_eq_false c)] at q'
    iterate 8 (walk_at "w")
    exact q'
inductive R_of : Gr
  | mk {l b ds c s d} (hl : s[l]? = some (bxl b)) (hz : 0 < ds.length) (hz2 : ds.length ≤ 1000000) (hc : Bk c b) (hc2 : c ≤ 2 ^ 40) (hd : ds[(tkR b (ds.length : Nat)).toNat]? = some d) : R_of [.loc l, .d (.list ds)] s (.d d) (s.set l (bxl (tkB b (ds.length : Nat))))
theorem ok_of (Z : Zx mg) (c__law_take : Cb P w K mg base "_law_take" 1 [] (spF K R_take)) (G : Fun K "_law_of" "_law_of" s__law_of f fd) : FnOk P w K mg base CX0 2 f fd ["_law_box_here", "_law_some"] (spF K R_of) := by
  refine G.ok sc__law_of (spF_len fun xs s x s' h => by cases h; rfl) (fun cdv A outer s H vs Q E hr ⟨M, xs, st, x, st', h, So, rx, q⟩ => ?_)
  cases h with
  | @mk l b ds c _ d hl hz hz2 hc hc2 hd =>
  refine ⟨_, (pss_one (ps_ret (pe_ix (ixk (K := K)) (pv 1) (pe_cb c__law_take (hr.mono (by decide)) (by rfl) (pa_cons (pv 0) (pa_cons (pe_callB (cbk_len (K := K)) (by rfl) Z.z_len bt_len (pa_cons (pv 1) pa_nil)) pa_nil))) (fun _ _ => rfl)))), ?_⟩
  refine w_run So rx ?_
  try simp only [nox_K, cx_K, List.map_cons, List.map_nil]
  have q' := okr_0 q (by rw [List.length_set]; exact So.len)
  have hr2 := tk_r (b := b) (n := (ds.length : Nat)) (by omega)
  have e : atI ds (tkR b (ds.length : Nat)) = some d := by
    have e := atI_nat hd
    rw [Int.toNat_of_nonneg hr2.1] at e
    exact e
  with_reducible apply w_ret
  · with_reducible apply ev_op
    · walk_at "ev"
    · with_reducible apply ev_call
      · walk_at "ea"
      · exact .mk hl (by omega) (by omega) hc hc2
    · walk_at "op"
  · exact q'
end
end K47
namespace K47
open PySem L2 Pw Km
section
local macro_rules | `(tactic| walk_at "sd") => `(tactic| first | rfl | assumption | exact Nat.le_of_ble_eq_true rfl | decide | omega | (walk_at "sd2"))
local macro_rules | `(tactic| walk_at "sd2") => `(tactic| first | exact cm_sm (by assumption) (by assumption) | exact cf_sm (by assumption) (by assumption) | ((with_reducible apply gs); (walk_at "sd")) | exact cm_fm7 | exact cm_if | exact cm_l (by omega) (by omega) | exact cm_r (by omega) (by omega) | exact cf_c (by omega) (by omega))
local macro_rules | `(tactic| walk_at "isi") => `(tactic| with_reducible first | exact kit_int | exact kit_bool | exact kit_tuple | exact kit_list | exact kit_str)
local macro_rules | `(tactic| walk_at "und") => `(tactic| with_reducible repeat (first | exact Und.nil | apply Und.cons))
local macro_rules | `(tactic| walk_at "op") => `(tactic| (first
  | with_reducible exact o_add | with_reducible exact o_minus | with_reducible exact o_lt | with_reducible exact o_gt | with_reducible exact o_le | with_reducible exact o_ge | with_reducible exact o_neg
  | with_reducible exact o_isN | with_reducible exact o_isntN | with_reducible exact o_isB | with_reducible exact o_isntB | with_reducible exact o_neS | with_reducible exact o_eqS
  | with_reducible exact o_abs | with_reducible exact o_intB | with_reducible exact o_min2 | with_reducible exact o_max2 | with_reducible exact o_lenL | with_reducible exact o_lenT | with_reducible exact o_lenC | with_reducible exact o_gcd
  | with_reducible apply o_ixT | with_reducible apply o_ixL | with_reducible apply o_ixM | with_reducible apply o_ixS | with_reducible apply o_lenM
  | with_reducible apply o_mul | with_reducible apply o_fdiv | with_reducible apply o_mod | with_reducible apply o_pow | with_reducible apply o_eq | with_reducible apply o_ne | with_reducible apply o_catT | with_reducible apply o_repr | with_reducible apply o_all) <;> walk_at "sd")
local macro_rules | `(tactic| walk_at "opn") => `(tactic| (first
  | with_reducible apply o_cat | with_reducible apply o_repI | with_reducible exact o_listT | with_reducible exact o_listL) <;> walk_at "sd")
local macro_rules | `(tactic| walk_at "ea") => `(tactic| first
  | with_reducible exact eva_nil
  | ((with_reducible apply eva_cons); (walk_at "ev"); (walk_at "ea")))
local macro_rules | `(tactic| walk_at "call") => `(tactic| fail)
local macro_rules | `(tactic| walk_at "evn") => `(tactic| first
  | ((with_reducible apply evn_lstU); (walk_at "ea"); (walk_at "und"); (walk_at "sd"))
  | ((with_reducible apply evn_op); (walk_at "ev"); (walk_at "ev"); (walk_at "opn"))
  | ((with_reducible apply evn_cb); (walk_at "ea"); (walk_at "opn"))
  | ((with_reducible apply evn_call); (walk_at "ea"); (walk_at "call")))
local macro_rules | `(tactic| walk_at "ev") => `(tactic| first
  | with_reducible exact ev_int | with_reducible exact ev_bl | with_reducible exact ev_non | with_reducible exact ev_str
  | ((with_reducible apply ev_var); rfl)
  | ((with_reducible apply ev_op); (walk_at "ev"); (walk_at "ev"); (walk_at "op"))
  | ((with_reducible apply ev_un); (walk_at "ev"); (walk_at "op"))
  | ((with_reducible apply ev_call); (walk_at "ea"); (walk_at "call"))
  | ((with_reducible apply ev_callD); (walk_at "ea"); (intro _ _; exact rxs_1); (walk_at "call"))
  | ((with_reducible apply ev_callK); (walk_at "ea"); rfl; (intro _ _ _ hh; first | exact rxs_swap2 hh | exact rxs_same1 hh); (walk_at "call"))
  | ((with_reducible apply ev_isi); (walk_at "ev"); (walk_at "isi"))
  | ((with_reducible apply ev_isi2); (walk_at "ev"); (walk_at "isi"); (walk_at "isi"))
  | ((with_reducible apply ev_cb); (walk_at "ea"); (walk_at "op"))
  | ((with_reducible apply ev_tupU); (walk_at "ea"); (walk_at "und"); (walk_at "sd"))
  | ((with_reducible apply ev_new); (walk_at "evn"))
  | ((with_reducible apply ev_slT); (walk_at "ev"); (walk_at "eo"); (walk_at "eo"))
  | ((with_reducible apply ev_andV); (walk_at "ev"); (intro _; walk_at "ev"); (intro _; rfl))
  | ((with_reducible apply ev_orV); (walk_at "ev"); (intro _; walk_at "ev"); (intro _; rfl))
  | ((with_reducible apply ev_notV); (walk_at "ev")))
local macro_rules | `(tactic| walk_at "eo") => `(tactic| first
  | with_reducible exact eo_none
  | ((with_reducible apply eo_some); (walk_at "ev")))
local macro_rules | `(tactic| walk_at "et") => `(tactic| first
  | ((with_reducible apply et_test); (walk_at "ev"))
  | ((with_reducible apply et_B); (walk_at "ev"))
  | ((with_reducible apply et_not); (walk_at "et"))
  | ((with_reducible apply et_and); (walk_at "et"); (intro _; walk_at "et"); (intro _; rfl))
  | ((with_reducible apply et_or); (walk_at "et"); (intro _; walk_at "et"); (intro _; rfl)))
local macro_rules | `(tactic| walk_at "w") => `(tactic| first
  | (with_reducible apply w_seq)
  | (with_reducible apply w_next)
  | ((with_reducible apply w_asg); (walk_at "ev"))
  | ((with_reducible apply w_ret); (walk_at "ev"))
  | ((with_reducible apply w_drop); (walk_at "ev"))
  | ((with_reducible apply w_par); (walk_at "ea"))
  | ((with_reducible apply w_tup2); (walk_at "ev"))
  | ((with_reducible apply w_tup3); (walk_at "ev"))
  | ((with_reducible apply w_setI); (walk_at "ev"); (walk_at "ev"); (walk_at "ev"); (walk_at "sd"); (walk_at "sd"))
  | ((with_reducible apply w_if); (walk_at "et")))

variable {P : Program} {w : World} {K : Pw.Fg} {mg : Str → Option Value} {base : Heap} {f : Addr} {fd : FuncData}
/-! ### the law's own fraction -/
theorem ok_lfrac (Z : Zx mg) (G : Fun K "_law_frac" "_law_frac" s__law_frac f fd) : FnOk P w K mg base CX0 1 f fd ["_law_top", "_law_under"] (spF K R_frac) := by
  refine G.ok sc__law_frac (spF_len fun xs s x s' h => by cases h; rfl) (fun cdv A outer s H vs Q E hr ⟨M, xs, st, x, st', h, So, rx, q⟩ => ?_)
  cases h with
  | @mk u v _ h hu hv =>
  refine ⟨_, (pss_cons (ps_par (i := 2) (j := 3) (by rfl) sc__law_frac.nd rfl rfl (by decide) rfl rfl (pa_cons (pe_callB cb_abs (by rfl) Z.z_abs bt_abs (pa_cons (pv 0) pa_nil)) (pa_cons (pe_callB cb_abs (by rfl) Z.z_abs bt_abs (pa_cons (pv 1) pa_nil)) pa_nil)) (by rfl))
      (pss_cons (ps_while PassesOwn.never (pt_cmpR op_gtA (pv 3) (pe_int) (nomark _)) (pss_one (ps_par (i := 2) (j := 3) (by rfl) sc__law_frac.nd rfl rfl (by decide) rfl rfl (pa_cons (pv 3) (pa_cons (pe_op op_modA (pv 2) (pv 3)) pa_nil)) (by rfl))))
      (pss_cons (ps_set (i := 4) sc__law_frac.nd rfl (.inl rfl) (pe_ifExp (pt_cmpR op_gtA (pv 1) (pe_int) (nomark _)) (pe_int) (pe_un un_negA (pe_int))))
      (pss_one (ps_ret (pe_tup (pa_cons (pe_op op_fdivA (pe_op op_times (pv 4) (pv 0)) (pv 2)) (pa_cons (pe_op op_fdivA (pe_callB cb_abs (by rfl) Z.z_abs bt_abs (pa_cons (pv 1) pa_nil)) (pv 2)) pa_nil)))))))), ?_⟩
  refine w_run So rx ?_
  try simp only [nox_K, cx_K, List.map_cons, List.map_nil]
  have q' := okr_0 q So.len
  have g0 := gcd_pos (u := u) h
  iterate 3 (walk_at "w")
  refine w_while (fun m ρ s => s = st ∧ ∃ p : Nat, ρ = [some (.d (.int u)), some (.d (.int v)), some (.d (.int (p : Int))), some (.d (.int (m : Int))), none] ∧ Nat.gcd p m = Nat.gcd u.natAbs v.natAbs) ⟨v.natAbs, rfl, u.natAbs, ?_, rfl⟩ ?_
  · rw [abs_if, abs_if]
    rfl
  · rintro m ρ s2 ⟨rfl, p, rfl, hg⟩
    refine ⟨decide (0 < (m : Int)), s2, ?_, ?_, ?_⟩
    · walk_at "et"
    · intro c N hN
      have hm : 0 < m := by
        have := of_decide_eq_true c
        omega
      walk_at "w"
      refine hN (p % m) _ _ (Nat.mod_lt _ hm) ⟨rfl, m, ?_, ?_⟩
      · rw [cast_fmod hm]
        rfl
      · rw [Nat.gcd_comm, ← Nat.gcd_rec, Nat.gcd_comm]
        exact hg
    · intro c
      have hm : m = 0 := by
        have := of_decide_eq_false c
        omega
      subst hm
      rw [Nat.gcd_zero_right] at hg
      subst hg
      have hs : Sm 4000 (((Nat.gcd u.natAbs v.natAbs : Nat)) : Int) := hv.le (by
        rw [Int.natAbs_natCast]
        exact Nat.le_of_dvd (by omega) (Nat.gcd_dvd_right _ _))
      have c1 : ∀ i, CF i (((Nat.gcd u.natAbs v.natAbs : Nat)) : Int) := fun i => cf_sm (by omega) hs
      have c2 := c1 (sg v * u)
      have c3 := c1 (if v < 0 then -v else v)
      have c4 : CM (sg v) u := by
        have := sg_abs v
        exact cm_l (by omega) (by omega)
      walk_at "w"
      with_reducible apply w_asg (x := .d (.int (sg v)))
      · with_reducible apply ev_if
        · walk_at "et"
        · intro cc
          exact ev_int.is (by unfold sg; rw [if_pos (of_decide_eq_true cc)])
        · intro cc
          have e : sg v = -1 := by unfold sg; rw [if_neg (of_decide_eq_false cc)]
          rw [e]
          walk_at "ev"
      · walk_at "w"
        refine q'.is ?_
        rw [abs_if]
        rfl
section
local macro_rules | `(tactic| walk_at "call") => `(tactic| exact fr_mk (by assumption) (by assumption) (by assumption))
end
/-! ### a drawn fraction -/
inductive R_draw : Gr
  | mk {l b n c s} (hl : s[l]? = some (bxl b)) (hn : 0 ≤ n) (hn2 : n ≤ 100000) (hc : Bk c b) (hc2 : c + 2 ≤ 2 ^ 40) : R_draw [.loc l, .d (.int n)] s (.d (lw (drN b n) (drD b n))) ((s.set l (bxl (tkB b (2 * n + 1)))).set l (bxl (drB b n)))
theorem ok_draw (c__law_take : Cb P w K mg base "_law_take" 1 [] (spF K R_take)) (c__law_of : Cb P w K mg base "_law_of" 2 [] (spF K R_of)) (c__law_frac : Cb P w K mg base "_law_frac" 1 [] (spF K R_frac)) (G : Fun K "_law_draw" "_law_draw" s__law_draw f fd) : FnOk P w K mg base CX0 3 f fd ["_law_box_here", "_law_top"] (spF K R_draw) := by
  refine G.ok sc__law_draw (spF_len fun xs s x s' h => by cases h; rfl) (fun cdv A outer s H vs Q E hr ⟨M, xs, st, x, st', h, So, rx, q⟩ => ?_)
  cases h with
  | @mk l b n c _ hl hn hn2 hc hc2 =>
  refine ⟨_, (pss_one (ps_ret (pe_cb c__law_frac (hr.mono (by decide)) (by rfl) (pa_cons (pe_op op_minus (pe_cb c__law_take (hr.mono (by decide)) (by rfl) (pa_cons (pv 0) (pa_cons (pe_op (opk_plus (K := K)) (pe_op op_times (pe_int) (pv 1)) (pe_int)) pa_nil))) (pv 1)) (pa_cons (pe_cb c__law_of (hr.mono (by decide)) (by rfl) (pa_cons (pv 0) (pa_cons (pe_lst (pa_cons (pe_int) (pa_cons (pe_int) (pa_cons (pe_int) (pa_cons (pe_int) (pa_cons (pe_int) (pa_cons (pe_int) pa_nil))))))) pa_nil))) pa_nil))))), ?_⟩
  refine w_run So rx ?_
  try simp only [nox_K, cx_K, List.map_cons, List.map_nil]
  have q' := okr_0 q (by rw [List.length_set, List.length_set]; exact So.len)
  have h1 := drN_le (b := b) hn
  have h2 := drD_le (b := b) (n := n)
  have s1 : Sm 20 (drN b n) := .of 100000 (by omega)
  have s2 : Sm 20 (drD b n) := .of 4 (by omega)
  with_reducible apply w_ret
  · with_reducible apply ev_call
    · with_reducible apply eva_cons
      · with_reducible apply ev_op
        · with_reducible apply ev_call
          · walk_at "ea"
          · exact .mk hl (by omega) (by omega) hc (by omega)
        · walk_at "ev"
        · walk_at "op"
      · with_reducible apply eva_cons
        · with_reducible apply ev_call
          · walk_at "ea"
          · exact R_of.mk (ds := [.int 1, .int 1, .int 1, .int 2, .int 3, .int 4]) (b := tkB b (2 * n + 1)) (c := c + 1) (gs hl) (by decide) (by decide) hc.next (by omega) (drD_at (b := b) (n := n))
        · exact eva_nil
    · exact fr_mk (n := 20) (m := 20) s1 s2 (by omega)
  · exact q'
end
end K47
namespace K47
open PySem L2 Pw Km
section
local macro_rules | `(tactic| walk_at "sd") => `(tactic| first | rfl | assumption | exact Nat.le_of_ble_eq_true rfl | decide | omega | (walk_at "sd2"))
local macro_rules | `(tactic| walk_at "sd2") => `(tactic| first | exact cm_sm (by assumption) (by assumption) | exact cf_sm (by assumption) (by assumption) | ((with_reducible apply gs); (walk_at "sd")) | exact cm_fm7 | exact cm_if | exact cm_l (by omega) (by omega) | exact cm_r (by omega) (by omega) | exact cf_c (by omega) (by omega))
local macro_rules | `(tactic| walk_at "isi") => `(tactic| with_reducible first | exact kit_int | exact kit_bool | exact kit_tuple | exact kit_list | exact kit_str)
local macro_rules | `(tactic| walk_at "und") => `(tactic| with_reducible repeat (first | exact Und.nil | apply Und.cons))
local macro_rules | `(tactic| walk_at "op") => `(tactic| (first
  | with_reducible exact o_add | with_reducible exact o_minus | with_reducible exact o_lt | with_reducible exact o_gt | with_reducible exact o_le | with_reducible exact o_ge | with_reducible exact o_neg
  | with_reducible exact o_isN | with_reducible exact o_isntN | with_reducible exact o_isB | with_reducible exact o_isntB | with_reducible exact o_neS | with_reducible exact o_eqS
  | with_reducible exact o_abs | with_reducible exact o_intB | with_reducible exact o_min2 | with_reducible exact o_max2 | with_reducible exact o_lenL | with_reducible exact o_lenT | with_reducible exact o_lenC | with_reducible exact o_gcd
  | with_reducible apply o_ixT | with_reducible apply o_ixL | with_reducible apply o_ixM | with_reducible apply o_ixS | with_reducible apply o_lenM
  | with_reducible apply o_mul | with_reducible apply o_fdiv | with_reducible apply o_mod | with_reducible apply o_pow | with_reducible apply o_eq | with_reducible apply o_ne | with_reducible apply o_catT | with_reducible apply o_repr | with_reducible apply o_all) <;> walk_at "sd")
local macro_rules | `(tactic| walk_at "opn") => `(tactic| (first
  | with_reducible apply o_cat | with_reducible apply o_repI | with_reducible exact o_listT | with_reducible exact o_listL) <;> walk_at "sd")
local macro_rules | `(tactic| walk_at "ea") => `(tactic| first
  | with_reducible exact eva_nil
  | ((with_reducible apply eva_cons); (walk_at "ev"); (walk_at "ea")))
local macro_rules | `(tactic| walk_at "call") => `(tactic| fail)
local macro_rules | `(tactic| walk_at "evn") => `(tactic| first
  | ((with_reducible apply evn_lstU); (walk_at "ea"); (walk_at "und"); (walk_at "sd"))
  | ((with_reducible apply evn_op); (walk_at "ev"); (walk_at "ev"); (walk_at "opn"))
  | ((with_reducible apply evn_cb); (walk_at "ea"); (walk_at "opn"))
  | ((with_reducible apply evn_call); (walk_at "ea"); (walk_at "call")))
local macro_rules | `(tactic| walk_at "ev") => `(tactic| first
  | with_reducible exact ev_int | with_reducible exact ev_bl | with_reducible exact ev_non | with_reducible exact ev_str
  | ((with_reducible apply ev_var); rfl)
  | ((with_reducible apply ev_op); (walk_at "ev"); (walk_at "ev"); (walk_at "op"))
  | ((with_reducible apply ev_un); (walk_at "ev"); (walk_at "op"))
  | ((with_reducible apply ev_call); (walk_at "ea"); (walk_at "call"))
  | ((with_reducible apply ev_callD); (walk_at "ea"); (intro _ _; exact rxs_1); (walk_at "call"))
  | ((with_reducible apply ev_callK); (walk_at "ea"); rfl; (intro _ _ _ hh; first | exact rxs_swap2 hh | exact rxs_same1 hh); (walk_at "call"))
  | ((with_reducible apply ev_isi); (walk_at "ev"); (walk_at "isi"))
  | ((with_reducible apply ev_isi2); (walk_at "ev"); (walk_at "isi"); (walk_at "isi"))
  | ((with_reducible apply ev_cb); (walk_at "ea"); (walk_at "op"))
  | ((with_reducible apply ev_tupU); (walk_at "ea"); (walk_at "und"); (walk_at "sd"))
  | ((with_reducible apply ev_new); (walk_at "evn"))
  | ((with_reducible apply ev_slT); (walk_at "ev"); (walk_at "eo"); (walk_at "eo"))
  | ((with_reducible apply ev_andV); (walk_at "ev"); (intro _; walk_at "ev"); (intro _; rfl))
  | ((with_reducible apply ev_orV); (walk_at "ev"); (intro _; walk_at "ev"); (intro _; rfl))
  | ((with_reducible apply ev_notV); (walk_at "ev")))
local macro_rules | `(tactic| walk_at "eo") => `(tactic| first
  | with_reducible exact eo_none
  | ((with_reducible apply eo_some); (walk_at "ev")))
local macro_rules | `(tactic| walk_at "et") => `(tactic| first
  | ((with_reducible apply et_test); (walk_at "ev"))
  | ((with_reducible apply et_B); (walk_at "ev"))
  | ((with_reducible apply et_not); (walk_at "et"))
  | ((with_reducible apply et_and); (walk_at "et"); (intro _; walk_at "et"); (intro _; rfl))
  | ((with_reducible apply et_or); (walk_at "et"); (intro _; walk_at "et"); (intro _; rfl)))
local macro_rules | `(tactic| walk_at "w") => `(tactic| first
  | (with_reducible apply w_seq)
  | (with_reducible apply w_next)
  | ((with_reducible apply w_asg); (walk_at "ev"))
  | ((with_reducible apply w_ret); (walk_at "ev"))
  | ((with_reducible apply w_drop); (walk_at "ev"))
  | ((with_reducible apply w_par); (walk_at "ea"))
  | ((with_reducible apply w_tup2); (walk_at "ev"))
  | ((with_reducible apply w_tup3); (walk_at "ev"))
  | ((with_reducible apply w_setI); (walk_at "ev"); (walk_at "ev"); (walk_at "ev"); (walk_at "sd"); (walk_at "sd"))
  | ((with_reducible apply w_if); (walk_at "et")))

variable {P : Program} {w : World} {K : Pw.Fg} {mg : Str → Option Value} {base : Heap} {f : Addr} {fd : FuncData}
/-! ### the same, kind by kind -/
inductive R_same (n : Nat) : Gr
  | mk {d s} (h : PyData.canLay0 d = true) (hd : PyData.depth d < n) (hz : nod d ≤ 1000000) (hn : n ≤ 60) : R_same n [.d d, .d d] s (.d (.bool true)) s
theorem ok_same (Z : Zx mg) (hm : mg "_law_same" = some (.ref f)) (G : Fun K "_law_same" "_law_same" s__law_same f fd) : ∀ n, FnOk P w K mg base CX0 n f fd ["_law_found", "_law_due"] (spF K (R_same n))
  | 0 => ⟨spF_len fun xs s x s' h => by cases h; rfl, fun A outer s H args us vs Q E hr e0 hb hv ⟨M, xs, st, x, st', h, _⟩ => by
    cases h with
    | mk h hd hz hn => exact absurd hd (by omega)⟩
  | n + 1 => by
    have c__law_same : Cb P w K mg base "_law_same" n [] (spF K (R_same n)) := cb_mk G hm (ok_same Z hm G n) fun _ _ _ _ _ _ us hl => match us, hl with | [_, _], _ => rfl
    refine G.ok sc__law_same (spF_len fun xs s x s' h => by cases h; rfl) (fun cdv A outer s H vs Q E hr ⟨M, xs, st, x, st', h, So, rx, q⟩ => ?_)
    cases h with
    | @mk d _ h hd hz hn =>
    refine ⟨_, (pss_cons (ps_if (pt_val (pe_callB (cbk_isiT (K := K)) (by rfl) Z.z_isinstance bt_isinstance (pa_cons (pv 1) (pa_cons (pe_tup (pa_cons (pe_bltn (v := .ty "list") (by rfl) Z.z_list bt_list rfl) (pa_cons (pe_bltn (v := .ty "tuple") (by rfl) Z.z_tuple bt_tuple rfl) pa_nil))) pa_nil)))) (pss_cons (ps_if (PW.pt (pw_or (pt_cmpR (opk_ne (K := K) hr.units) (pe_callB (cbk_isi (K := K)) (by rfl) Z.z_isinstance bt_isinstance (pa_cons (pv 0) (pa_cons (pe_bltn (v := .ty "list") (by rfl) Z.z_list bt_list rfl) pa_nil))) (pe_callB (cbk_isi (K := K)) (by rfl) Z.z_isinstance bt_isinstance (pa_cons (pv 1) (pa_cons (pe_bltn (v := .ty "list") (by rfl) Z.z_list bt_list rfl) pa_nil))) (nomark _)) (pw_or1 (pt_cmpR (opk_ne (K := K) hr.units) (pe_callB (cbk_isi (K := K)) (by rfl) Z.z_isinstance bt_isinstance (pa_cons (pv 0) (pa_cons (pe_bltn (v := .ty "tuple") (by rfl) Z.z_tuple bt_tuple rfl) pa_nil))) (pe_callB (cbk_isi (K := K)) (by rfl) Z.z_isinstance bt_isinstance (pa_cons (pv 1) (pa_cons (pe_bltn (v := .ty "tuple") (by rfl) Z.z_tuple bt_tuple rfl) pa_nil))) (nomark _))))) (pss_one (ps_ret (pe_bl))) pss_nil)
      (pss_one (ps_ret (pe_and (pe_cmpR (opk_eq (K := K) hr.units) (pe_callB (cbk_len (K := K)) (by rfl) Z.z_len bt_len (pa_cons (pv 0) pa_nil)) (pe_callB (cbk_len (K := K)) (by rfl) Z.z_len bt_len (pa_cons (pv 1) pa_nil)) (nomark _)) (pe_one (pe_callB (cbk_all (K := K) rfl) (by rfl) Z.z_all bt_all (pa_cons (pe_lc (own := [("_law_here", 2), ("_law_there", 3)]) rfl sc__law_same.nd (pik_zip (K := K) (by rfl) Z.z_zip (pa_cons (pv 0) (pa_cons (pv 1) pa_nil))) (blkOk_by (own := [("_law_here", 2), ("_law_there", 3)]) (N := N__law_same) (sc := defScope s__law_same) (by decide +kernel)) (fun _ _ _ _ _ => (pgk_tup (K := K) 2 (by rfl) (pgs_cons (pg_name (i := 2) sc__law_same.nd rfl (Or.inl rfl)) (pgs_cons (pg_name (i := 3) sc__law_same.nd rfl (Or.inl rfl)) pgs_nil)))) (fun _ _ _ _ _ => pts_nil) (fun _ _ _ _ _ => pe_cb c__law_same (hr.mono (by omega)) (by rfl) (pa_cons (pv 2) (pa_cons (pv 3) pa_nil)))) pa_nil))))))) pss_nil)
      (pss_cons (ps_if (PW.pt (pw_or (pt_cmpR (opk_ne (K := K) hr.units) (pe_callB (cbk_isi (K := K)) (by rfl) Z.z_isinstance bt_isinstance (pa_cons (pv 0) (pa_cons (pe_bltn (v := .ty "bool") (by rfl) Z.z_bool bt_bool rfl) pa_nil))) (pe_callB (cbk_isi (K := K)) (by rfl) Z.z_isinstance bt_isinstance (pa_cons (pv 1) (pa_cons (pe_bltn (v := .ty "bool") (by rfl) Z.z_bool bt_bool rfl) pa_nil))) (nomark _)) (pw_or1 (pt_cmpR (opk_ne (K := K) hr.units) (pe_callB (cbk_isi (K := K)) (by rfl) Z.z_isinstance bt_isinstance (pa_cons (pv 0) (pa_cons (pe_bltn (v := .ty "int") (by rfl) Z.z_int bt_int rfl) pa_nil))) (pe_callB (cbk_isi (K := K)) (by rfl) Z.z_isinstance bt_isinstance (pa_cons (pv 1) (pa_cons (pe_bltn (v := .ty "int") (by rfl) Z.z_int bt_int rfl) pa_nil))) (nomark _))))) (pss_one (ps_ret (pe_bl))) pss_nil)
      (pss_one (ps_ret (pe_cmpR (opk_eq (K := K) hr.units) (pv 0) (pv 1) (nomark _)))))), ?_⟩
    refine w_run So rx ?_
    try simp only [nox_K, cx_K, List.map_cons, List.map_nil]
    have q' := okr_0 q So.len
    have sB : ∀ b : Bool, SeqAt.shaped (.bool b) = true := fun _ => rfl
    have self : ∀ b : Bool, PyData.eqv (.bool b) (.bool b) = true := fun b => by simp [PyData.eqv]
    walk_at "w"
    by_cases hk : ∃ (ds : List PyData) (wr : List PyData → PyData), (wr = PyData.list ∨ wr = PyData.tuple) ∧ d = wr ds
    · obtain ⟨ds, wr, hw, rfl⟩ := hk
      have hlay : PyData.canLayAll0 ds = true := by
        rcases hw with hw | hw <;> (subst hw; simpa [PyData.canLay0] using h)
      have hdep : PyData.depthAll ds + 1 < n + 1 := by
        rcases hw with hw | hw <;> (subst hw; simpa [PyData.depth] using hd)
      have hnod : nodAll ds ≤ 1000000 := by
        rcases hw with hw | hw <;> (subst hw; simpa [nod] using hz)
      have main : ∀ {s2 : Sto}, EvN K (tLc (RZ.iZipA K (tCons (tVar 0) (tCons (tVar 1) tNil))) (gTup K 2 (gCons (gName 2) (gCons (gName 3) gNil))) tYes (tCall (spF K (R_same n)) [] E0 (tCons (tVar 2) (tCons (tVar 3) tNil))) [2, 3]) (rho0 N__law_same [.d (wr ds), .d (wr ds)]) s2 ((ds.map fun _ => true).map PyData.bool) s2 := fun {s2} => by
        refine evn_lcZ (S := fun _ => s2) (ds := ds) (fs := ds) hw (by walk_at "ea") rfl (by simp) ?_ ?_
        · rw [List.length_map, List.length_map]
          exact Nat.le_trans (nod_len ds) hnod
        · intro i d f e h1 h2 h3
          rw [h1] at h2
          cases h2
          rw [List.map_map, List.getElem?_map, h1] at h3
          cases h3
          with_reducible apply ev_call
          · walk_at "ea"
          · refine .mk (lay_mem hlay h1) ?_ (Nat.le_trans (nod_mem h1) hnod) (by omega)
            have := dep_mem h1
            omega
      have fin : ∀ {s2 : Sto} {t1 : TE} {D : Ends}, D.rt = Q → s2 = st → Ev K t1 (rho0 N__law_same [.d (wr ds), .d (wr ds)]) s2 (.d (.bool (PyData.eqv (.int (ds.length : Nat)) (.int (ds.length : Nat))))) s2 →
          W K M H [] (tRet (tAndV t1 (tCB (rAll K) (tCons (tLc (RZ.iZipA K (tCons (tVar 0) (tCons (tVar 1) tNil))) (gTup K 2 (gCons (gName 2) (gCons (gName 3) gNil))) tYes (tCall (spF K (R_same n)) [] E0 (tCons (tVar 2) (tCons (tVar 3) tNil))) [2, 3]) tNil))) D) (rho0 N__law_same [.d (wr ds), .d (wr ds)]) s2 := fun {s2 t1 D} hD hs h1 => by
        subst hs
        have e1 : PyData.eqv (.int (ds.length : Nat)) (.int (ds.length : Nat)) = true := by simp [PyData.eqv]
        rw [e1] at h1
        refine w_ret (x := .d (.bool true)) (s1 := s2) ?_ (by rw [hD]; exact q')
        refine (ev_andV (b := true) (c := (ds.map fun _ => true).all id) h1 (fun _ => ?_) (fun c => by cases c)).is (by rw [all_true]; rfl)
        refine ev_cb (eva_cons (ev_new main) eva_nil) o_all
      rcases hw with hw | hw
      · subst hw
        walk_at "w"
        · intro c
          iterate 2 (walk_at "w")
          · intro c2
            simp [PyData.eqv] at c2
          · intro c2
            walk_at "w"
            with_reducible apply fin
            · rfl
            · rfl
            · walk_at "ev"
        · intro c
          simp [isL] at c
      · subst hw
        walk_at "w"
        · intro c
          iterate 2 (walk_at "w")
          · intro c2
            simp [PyData.eqv] at c2
          · intro c2
            walk_at "w"
            with_reducible apply fin
            · rfl
            · rfl
            · walk_at "ev"
        · intro c
          simp [isT] at c
    · have e1 : isL d = false := by
        cases d <;> first | rfl | exact absurd ⟨_, _, .inl rfl, rfl⟩ hk
      have e2 : isT d = false := by
        cases d <;> first | rfl | exact absurd ⟨_, _, .inr rfl, rfl⟩ hk
      have hsd : SeqAt.shaped d = true := shaped_of h (by omega)
      have e3 := eqv_self d h
      walk_at "w"
      · intro c
        rw [e1, e2] at c
        cases c
      · intro c
        iterate 3 (walk_at "w")
        · intro c2
          simp [PyData.eqv] at c2
        · intro c2
          iterate 2 (walk_at "w")
          exact q'.is (by rw [e3])
end
end K47
namespace Km
def lc3 (p q t : Nat) : Nat := Nat.lcm (Nat.lcm (Nat.lcm 1 p) q) t
theorem lc3_p (p q t : Nat) : p ∣ lc3 p q t := Nat.dvd_trans (Nat.dvd_trans (Nat.dvd_lcm_right 1 p) (Nat.dvd_lcm_left _ q)) (Nat.dvd_lcm_left _ t)
theorem lc3_q (p q t : Nat) : q ∣ lc3 p q t := Nat.dvd_trans (Nat.dvd_lcm_right _ q) (Nat.dvd_lcm_left _ t)
theorem lc3_t (p q t : Nat) : t ∣ lc3 p q t := Nat.dvd_lcm_right _ t
theorem lc3_all (p q t : Nat) : lc3 p q t ∣ p * q * t := Nat.lcm_dvd (Nat.lcm_dvd (Nat.lcm_dvd (Nat.one_dvd _) (Nat.dvd_trans (Nat.dvd_mul_right p q) (Nat.dvd_mul_right _ t))) (Nat.dvd_trans (Nat.dvd_mul_left q p) (Nat.dvd_mul_right _ t))) (Nat.dvd_mul_left t _)
theorem fdiv_mul {p u : Nat} (h : 0 < p) : ((p * u : Nat) : Int).fdiv (p : Int) = (u : Int) := by
  rw [Int.fdiv_eq_ediv_of_nonneg _ (by omega), Int.natCast_mul, Int.mul_ediv_cancel_left _ (by omega)]
def nearL (x y r m cx cy : Int) : List Bool :=
  [decide ((cx * m - x) * (cx * m - x) + (cy * m - y) * (cy * m - y) ≤ r * r), decide ((cx * m - x) * (cx * m - x) + ((cy + 1) * m - y) * ((cy + 1) * m - y) ≤ r * r),
   decide (((cx + 1) * m - x) * ((cx + 1) * m - x) + (cy * m - y) * (cy * m - y) ≤ r * r), decide (((cx + 1) * m - x) * ((cx + 1) * m - x) + ((cy + 1) * m - y) * ((cy + 1) * m - y) ≤ r * r)]
theorem near_1 {k x y r m c d : Int} (hk : 0 < k) : decide ((c * (k * m) - k * x) * (c * (k * m) - k * x) + (d * (k * m) - k * y) * (d * (k * m) - k * y) ≤ (k * r) * (k * r)) = decide ((c * m - x) * (c * m - x) + (d * m - y) * (d * m - y) ≤ r * r) := by
  rw [decide_eq_decide]
  have kk : 0 < k * k := Int.mul_pos hk hk
  have e1 : (c * (k * m) - k * x) * (c * (k * m) - k * x) + (d * (k * m) - k * y) * (d * (k * m) - k * y) = (k * k) * ((c * m - x) * (c * m - x) + (d * m - y) * (d * m - y)) := by grind
  have e2 : (k * r) * (k * r) = (k * k) * (r * r) := by grind
  rw [e1, e2]
  exact ⟨fun h => Int.le_of_mul_le_mul_left h kk, fun h => Int.mul_le_mul_of_nonneg_left h (by omega)⟩
theorem near_scale {k x y r m cx cy : Int} (hk : 0 < k) : nearL (k * x) (k * y) (k * r) (k * m) cx cy = nearL x y r m cx cy := by
  unfold nearL
  rw [near_1 hk, near_1 hk, near_1 hk, near_1 hk]
/-- the same corners are near, by either common bottom -/
theorem near_same {p q t : Nat} (hp : 0 < p) (hq : 0 < q) (ht : 0 < t) (a b c cx cy : Int) :
    nearL (a * ((p * q * t : Nat) : Int).fdiv p) (b * ((p * q * t : Nat) : Int).fdiv q) (c * ((p * q * t : Nat) : Int).fdiv t) ((p * q * t : Nat) : Int) cx cy = nearL (a * (lc3 p q t : Int).fdiv p) (b * (lc3 p q t : Int).fdiv q) (c * (lc3 p q t : Int).fdiv t) (lc3 p q t : Int) cx cy := by
  obtain ⟨u, hu⟩ := lc3_p p q t
  obtain ⟨v, hv⟩ := lc3_q p q t
  obtain ⟨w, hw⟩ := lc3_t p q t
  obtain ⟨k, hk⟩ := lc3_all p q t
  have pos : 0 < p * q * t := Nat.mul_pos (Nat.mul_pos hp hq) ht
  have k0 : 0 < k := Nat.pos_of_ne_zero fun z => by rw [z, Nat.mul_zero] at hk; omega
  have e1 : ((p * q * t : Nat) : Int).fdiv p = (k : Int) * (lc3 p q t : Int).fdiv p := by
    rw [hk, hu, Nat.mul_assoc, fdiv_mul hp, fdiv_mul hp, Int.natCast_mul, Int.mul_comm]
  have e2 : ((p * q * t : Nat) : Int).fdiv q = (k : Int) * (lc3 p q t : Int).fdiv q := by
    rw [hk, hv, Nat.mul_assoc, fdiv_mul hq, fdiv_mul hq, Int.natCast_mul, Int.mul_comm]
  have e3 : ((p * q * t : Nat) : Int).fdiv t = (k : Int) * (lc3 p q t : Int).fdiv t := by
    rw [hk, hw, Nat.mul_assoc, fdiv_mul ht, fdiv_mul ht, Int.natCast_mul, Int.mul_comm]
  have e4 : ((p * q * t : Nat) : Int) = (k : Int) * (lc3 p q t : Int) := by rw [hk, Int.natCast_mul, Int.mul_comm]
  rw [e1, e2, e3, e4, ← Int.mul_assoc, ← Int.mul_assoc, ← Int.mul_assoc, Int.mul_comm a, Int.mul_comm b, Int.mul_comm c, Int.mul_assoc, Int.mul_assoc, Int.mul_assoc]
  exact near_scale (by omega)
theorem lcm_le (m n : Nat) : Nat.lcm m n ≤ m * n := Nat.div_le_self _ _
theorem any_t (bs : List Bool) : bs.any (· == true) = bs.any id := by
  congr 1
  funext b
  cases b <;> rfl
theorem any_f (bs : List Bool) : bs.any (· == false) = !bs.all id := by
  induction bs with
  | nil => rfl
  | cons b bs ih => rw [List.any_cons, List.all_cons, ih]; cases b <;> rfl
end Km
namespace K47
open PySem L2 Pw Km
theorem smn {k : Nat} (b : Nat) (h : k ≤ b) (e : b < 2 ^ 20 := by decide) : Sm 20 (k : Int) := ⟨by rw [Int.natAbs_natCast]; exact Nat.lt_of_le_of_lt h e⟩
/-- fractions with small bottoms -/
structure Fr (a : Int) (p : Nat) : Prop where
  sa : Sm 100 a
  p0 : 0 < p
  p1 : p ≤ 1000
theorem lc3_le {p q t : Nat} (hp : p ≤ 1000) (hq : q ≤ 1000) (ht : t ≤ 1000) : Nat.lcm 1 p ≤ 1000 ∧ Nat.lcm (Nat.lcm 1 p) q ≤ 1000000 ∧ lc3 p q t ≤ 1000000000 := by
  have h1 := Km.lcm_le 1 p
  have h2 := Km.lcm_le (Nat.lcm 1 p) q
  have h3 := Km.lcm_le (Nat.lcm (Nat.lcm 1 p) q) t
  have a1 : Nat.lcm 1 p ≤ 1000 := by omega
  have a2 : Nat.lcm (Nat.lcm 1 p) q ≤ 1000 * 1000 := Nat.le_trans h2 (Nat.mul_le_mul a1 hq)
  have a3 : lc3 p q t ≤ 1000 * 1000 * 1000 := Nat.le_trans h3 (Nat.mul_le_mul a2 ht)
  exact ⟨a1, by omega, by omega⟩
abbrev prt3 (a b c : Int) (p q t : Nat) : PyData := .list [.int (a * (lc3 p q t : Int).fdiv p), .int (b * (lc3 p q t : Int).fdiv q), .int (c * (lc3 p q t : Int).fdiv t)]
inductive R_whole : Gr
  | mk {a b c : Int} {p q t : Nat} {s} (ha : Fr a p) (hb : Fr b q) (hc : Fr c t) : R_whole [.d (.list [q2 a p, q2 b q, q2 c t])] s (.d (.tuple [.int (lc3 p q t : Int), prt3 a b c p q t])) s
section
local macro_rules | `(tactic| walk_at "sd") => `(tactic| first | rfl | assumption | exact Nat.le_of_ble_eq_true rfl | decide | omega | (walk_at "sd2"))
local macro_rules | `(tactic| walk_at "sd2") => `(tactic| first | exact cm_sm (by assumption) (by assumption) | exact cf_sm (by assumption) (by assumption) | ((with_reducible apply gs); (walk_at "sd")) | exact cm_fm7 | exact cm_if | exact cm_l (by omega) (by omega) | exact cm_r (by omega) (by omega) | exact cf_c (by omega) (by omega))
local macro_rules | `(tactic| walk_at "isi") => `(tactic| with_reducible first | exact kit_int | exact kit_bool | exact kit_tuple | exact kit_list | exact kit_str)
local macro_rules | `(tactic| walk_at "und") => `(tactic| with_reducible repeat (first | exact Und.nil | apply Und.cons))
local macro_rules | `(tactic| walk_at "op") => `(tactic| (first
  | with_reducible exact o_add | with_reducible exact o_minus | with_reducible exact o_lt | with_reducible exact o_gt | with_reducible exact o_le | with_reducible exact o_ge | with_reducible exact o_neg
  | with_reducible exact o_isN | with_reducible exact o_isntN | with_reducible exact o_isB | with_reducible exact o_isntB | with_reducible exact o_neS | with_reducible exact o_eqS
  | with_reducible exact o_abs | with_reducible exact o_intB | with_reducible exact o_min2 | with_reducible exact o_max2 | with_reducible exact o_lenL | with_reducible exact o_lenT | with_reducible exact o_lenC | with_reducible exact o_gcd
  | with_reducible apply o_ixT | with_reducible apply o_ixL | with_reducible apply o_ixM | with_reducible apply o_ixS | with_reducible apply o_lenM
  | with_reducible apply o_mul | with_reducible apply o_fdiv | with_reducible apply o_mod | with_reducible apply o_pow | with_reducible apply o_eq | with_reducible apply o_ne | with_reducible apply o_catT | with_reducible apply o_repr | with_reducible apply o_all) <;> walk_at "sd")
local macro_rules | `(tactic| walk_at "opn") => `(tactic| (first
  | with_reducible apply o_cat | with_reducible apply o_repI | with_reducible exact o_listT | with_reducible exact o_listL) <;> walk_at "sd")
local macro_rules | `(tactic| walk_at "ea") => `(tactic| first
  | with_reducible exact eva_nil
  | ((with_reducible apply eva_cons); (walk_at "ev"); (walk_at "ea")))
local macro_rules | `(tactic| walk_at "call") => `(tactic| fail)
local macro_rules | `(tactic| walk_at "evn") => `(tactic| first
  | ((with_reducible apply evn_lstU); (walk_at "ea"); (walk_at "und"); (walk_at "sd"))
  | ((with_reducible apply evn_op); (walk_at "ev"); (walk_at "ev"); (walk_at "opn"))
  | ((with_reducible apply evn_cb); (walk_at "ea"); (walk_at "opn"))
  | ((with_reducible apply evn_call); (walk_at "ea"); (walk_at "call")))
local macro_rules | `(tactic| walk_at "ev") => `(tactic| first
  | with_reducible exact ev_int | with_reducible exact ev_bl | with_reducible exact ev_non | with_reducible exact ev_str
  | ((with_reducible apply ev_var); rfl)
  | ((with_reducible apply ev_op); (walk_at "ev"); (walk_at "ev"); (walk_at "op"))
  | ((with_reducible apply ev_un); (walk_at "ev"); (walk_at "op"))
  | ((with_reducible apply ev_call); (walk_at "ea"); (walk_at "call"))
  | ((with_reducible apply ev_callD); (walk_at "ea"); (intro _ _; exact rxs_1); (walk_at "call"))
  | ((with_reducible apply ev_callK); (walk_at "ea"); rfl; (intro _ _ _ hh; first | exact rxs_swap2 hh | exact rxs_same1 hh); (walk_at "call"))
  | ((with_reducible apply ev_isi); (walk_at "ev"); (walk_at "isi"))
  | ((with_reducible apply ev_isi2); (walk_at "ev"); (walk_at "isi"); (walk_at "isi"))
  | ((with_reducible apply ev_cb); (walk_at "ea"); (walk_at "op"))
  | ((with_reducible apply ev_tupU); (walk_at "ea"); (walk_at "und"); (walk_at "sd"))
  | ((with_reducible apply ev_new); (walk_at "evn"))
  | ((with_reducible apply ev_slT); (walk_at "ev"); (walk_at "eo"); (walk_at "eo"))
  | ((with_reducible apply ev_andV); (walk_at "ev"); (intro _; walk_at "ev"); (intro _; rfl))
  | ((with_reducible apply ev_orV); (walk_at "ev"); (intro _; walk_at "ev"); (intro _; rfl))
  | ((with_reducible apply ev_notV); (walk_at "ev")))
local macro_rules | `(tactic| walk_at "eo") => `(tactic| first
  | with_reducible exact eo_none
  | ((with_reducible apply eo_some); (walk_at "ev")))
local macro_rules | `(tactic| walk_at "et") => `(tactic| first
  | ((with_reducible apply et_test); (walk_at "ev"))
  | ((with_reducible apply et_B); (walk_at "ev"))
  | ((with_reducible apply et_not); (walk_at "et"))
  | ((with_reducible apply et_and); (walk_at "et"); (intro _; walk_at "et"); (intro _; rfl))
  | ((with_reducible apply et_or); (walk_at "et"); (intro _; walk_at "et"); (intro _; rfl)))
local macro_rules | `(tactic| walk_at "w") => `(tactic| first
  | (with_reducible apply w_seq)
  | (with_reducible apply w_next)
  | ((with_reducible apply w_asg); (walk_at "ev"))
  | ((with_reducible apply w_ret); (walk_at "ev"))
  | ((with_reducible apply w_drop); (walk_at "ev"))
  | ((with_reducible apply w_par); (walk_at "ea"))
  | ((with_reducible apply w_tup2); (walk_at "ev"))
  | ((with_reducible apply w_tup3); (walk_at "ev"))
  | ((with_reducible apply w_setI); (walk_at "ev"); (walk_at "ev"); (walk_at "ev"); (walk_at "sd"); (walk_at "sd"))
  | ((with_reducible apply w_if); (walk_at "et")))

variable {P : Program} {w : World} {K : Pw.Fg} {mg : Str → Option Value} {base : Heap} {f : Addr} {fd : FuncData}
def lcs (p q t : Nat) : Nat → Nat
  | 0 => 1
  | 1 => Nat.lcm 1 p
  | 2 => Nat.lcm (Nat.lcm 1 p) q
  | _ => lc3 p q t
theorem ok_whole (Z : Zx mg) (G : Fun K "_whole" "_whole" s__whole f fd) : FnOk P w K mg base CX0 1 f fd ["values"] (spF K R_whole) := by
  refine G.ok sc__whole (spF_len fun xs s x s' h => by cases h; rfl) (fun cdv A outer s H vs Q E hr ⟨M, xs, st, x, st', h, So, rx, qq⟩ => ?_)
  cases h with
  | @mk a b c p q t _ ha hb hc =>
  refine ⟨_, (pss_cons (ps_set (i := 1) sc__whole.nd rfl (.inr rfl) (pe_int))
      (pss_cons (ps_for PassesOwn.never rfl (pik_list (K := K) (pv 0)) (pg_name (i := 2) sc__whole.nd rfl (Or.inl rfl)) (pss_one (ps_set (i := 1) sc__whole.nd rfl (.inr rfl) (pe_callBfun cr_lcm (by rfl) Z.z_lcm (pa_cons (pv 1) (pa_cons (pe_ix (ixk (K := K)) (pv 2) (pe_int) (fun _ _ => rfl)) pa_nil))))))
      (pss_one (ps_ret (pe_tup (pa_cons (pv 1) (pa_cons (pe_lc (own := [("top", 3), ("bottom", 4)]) rfl sc__whole.nd (pik_list (K := K) (pv 0)) (blkOk_by (own := [("top", 3), ("bottom", 4)]) (N := N__whole) (sc := defScope s__whole) (by decide +kernel)) (fun _ _ _ _ _ => (pgk_tup (K := K) 2 (by rfl) (pgs_cons (pg_name (i := 3) sc__whole.nd rfl (Or.inl rfl)) (pgs_cons (pg_name (i := 4) sc__whole.nd rfl (Or.inl rfl)) pgs_nil)))) (fun _ _ _ _ _ => pts_nil) (fun _ _ _ _ _ => pe_op op_times (pv 3) (pe_op op_fdivA (pv 1) (pv 4)))) pa_nil))))))), ?_⟩
  refine w_run So rx ?_
  try simp only [nox_K, cx_K, List.map_cons, List.map_nil]
  have q' := okr_0 qq So.len
  obtain ⟨b1, b2, b3⟩ := lc3_le ha.p1 hb.p1 hc.p1
  have p1 := ha.p1; have p0 := ha.p0; have q1 := hb.p1; have q0 := hb.p0; have t1 := hc.p1; have t0 := hc.p0
  walk_at "w"
  walk_at "w"
  dsimp only [List.set]
  walk_at "w"
  refine w_forL (ds := [q2 a p, q2 b q, q2 c t]) (s1 := st) (ev_var rfl) (fun i ρ s => s = st ∧ Lq [some (.d (.list [q2 a p, q2 b q, q2 c t])), some (.d (.int (lcs p q t i : Int))), none, none, none] ρ) ⟨rfl, .same (.same (.none (.none (.none .nil))))⟩ ?_ ?_
  · rintro v i d ρ s2 N hd ⟨rfl, hq⟩ hN
    obtain ⟨e1, e2, rfl, le, ls, e0⟩ : ∃ (e1 : Int) (e2 : Nat), d = q2 e1 e2 ∧ Nat.lcm (lcs p q t i) e2 = lcs p q t (i + 1) ∧ lcs p q t i < 2 ^ 64 ∧ e2 < 2 ^ 64 := by
      match i, hd with
      | 0, hd => cases hd; exact ⟨a, p, rfl, rfl, by show 1 < 2 ^ 64; decide, by omega⟩
      | 1, hd => cases hd; exact ⟨b, q, rfl, rfl, by show Nat.lcm 1 p < 2 ^ 64; omega, by omega⟩
      | 2, hd => cases hd; exact ⟨c, t, rfl, rfl, by show Nat.lcm (Nat.lcm 1 p) q < 2 ^ 64; omega, by omega⟩
      | i + 3, hd => cases hd
    refine w_wk (hq.set 2 (some (.d (q2 e1 e2)))) ?_
    dsimp only [List.set]
    refine w_asg (x := .d (.int (lcs p q t (i + 1) : Int))) (s1 := s2) (Ev.is (ev_cb (eva_cons (ev_var rfl) (eva_cons (ev_op (ev_var rfl) ev_int (o_ixT rfl)) eva_nil)) (o_lcm (by rw [Int.natAbs_natCast]; exact ls) (by rw [Int.natAbs_natCast]; exact e0))) (by rw [Int.natAbs_natCast, Int.natAbs_natCast, le])) ?_
    dsimp only [List.set]
    exact hN _ _ ⟨rfl, .same (.same (.none (.none (.none .nil))))⟩
  · rintro ρ s2 ⟨rfl, hq⟩
    refine w_wk hq ?_
    have sM : Sm 30 (lc3 p q t : Int) := ⟨by rw [Int.natAbs_natCast]; omega⟩
    have LC : ∀ (e : Int) (r : Nat), Fr e r → CM e ((lc3 p q t : Int).fdiv r) ∧ CF (lc3 p q t : Int) r := fun e r h => by
      have r0 := h.p0
      have r1 := h.p1
      exact ⟨cm_sm h.sa (sM.le (fdiv_le (by omega))), cf_sm (by omega) (smn 1000 r1)⟩
    refine w_ret (x := .d (.tuple [.int (lc3 p q t : Int), prt3 a b c p q t])) (s1 := s2) (ev_tupU (eva_cons (ev_var rfl) (eva_cons (ev_new (evn_lcP (S := fun _ => s2) (ps := [(.int a, .int p), (.int b, .int q), (.int c, .int t)]) (es := [.int (a * (lc3 p q t : Int).fdiv p), .int (b * (lc3 p q t : Int).fdiv q), .int (c * (lc3 p q t : Int).fdiv t)]) (ev_var rfl) rfl (Nat.le_of_ble_eq_true rfl) ?_)) eva_nil)) (.cons (.cons .nil)) (Nat.le_of_ble_eq_true rfl)) q'
    intro i pr e h1 h2
    have go : ∀ (x : Int) (r : Nat), Fr x r → ∀ s' , Ev K (tOp rTimes (tVar 3) (tOp rFdiv (tVar 1) (tVar 4))) (List.set (List.set [some (.d (.list [q2 a p, q2 b q, q2 c t])), some (.d (.int (lcs p q t 3 : Int))), none, none, none] 3 (some (.d (.int x)))) 4 (some (.d (.int (r : Int))))) s' (.d (.int (x * (lc3 p q t : Int).fdiv r))) s' := fun x r h s' => by
      obtain ⟨c1, c2⟩ := LC x r h
      exact ev_op (ev_var rfl) (ev_op (ev_var rfl) (ev_var rfl) (o_fdiv c2)) (o_mul c1)
    match i, h1, h2 with
    | 0, h1, h2 => cases h1; cases h2; exact go a p ha _
    | 1, h1, h2 => cases h1; cases h2; exact go b q hb _
    | 2, h1, h2 => cases h1; cases h2; exact go c t hc _
    | i + 3, h1, h2 => cases h1
end
end K47
namespace K47
open PySem L2 Pw Km
/-- what's told of a hoop -/
def hpB (a b c : Int) (p q t : Nat) (cx cy : Int) : Bool :=
  (nearL (a * (lc3 p q t : Int).fdiv p) (b * (lc3 p q t : Int).fdiv q) (c * (lc3 p q t : Int).fdiv t) (lc3 p q t : Int) cx cy).any (· == true) && (nearL (a * (lc3 p q t : Int).fdiv p) (b * (lc3 p q t : Int).fdiv q) (c * (lc3 p q t : Int).fdiv t) (lc3 p q t : Int) cx cy).any (· == false)
abbrev hoopT (a b c : Int) (p q t : Nat) : PyData := .tuple [.str "hoop", .str "a", .str "c", .tuple [q2 a p, q2 b q], q2 c t]
abbrev pegT (a b : Int) (p q : Nat) : PyData := .tuple [.str "peg", .str "a.b", .str "o", .tuple [q2 a p, q2 b q]]
inductive R_hoop : Gr
  | mk {a b c : Int} {p q t : Nat} {cx cy : Int} {s} (ha : Fr a p) (hb : Fr b q) (hc : Fr c t) (hx : Sm 100 cx) (hy : Sm 100 cy) : R_hoop [.d (hoopT a b c p q t), .d (q2 cx cy)] s (.d (.bool (hpB a b c p q t cx cy))) s
inductive R_none : Gr
inductive R_marks : Gr
  | hoop {a b c : Int} {p q t : Nat} {cx cy : Int} {s} (ha : Fr a p) (hb : Fr b q) (hc : Fr c t) (hx : Sm 100 cx) (hy : Sm 100 cy) : R_marks [.d (hoopT a b c p q t), .d (q2 cx cy)] s (.d (.bool (hpB a b c p q t cx cy))) s
  | peg {a b : Int} {p q : Nat} {cx cy : Int} {s} (ha : Fr a p) (hb : Fr b q) : R_marks [.d (pegT a b p q), .d (q2 cx cy)] s (.d (.bool (decide ((a.fdiv p, b.fdiv q) = (cx, cy))))) s
theorem eqv_q2 {a b c d : Int} : PyData.eqv (q2 a b) (q2 c d) = decide ((a, b) = (c, d)) := by
  show ((a == c) && ((b == d) && true)) = _
  rw [Bool.and_true, Bool.eq_iff_iff, Bool.and_eq_true, beq_iff_eq, beq_iff_eq, decide_eq_true_eq]
  exact ⟨fun h => by rw [h.1, h.2], fun h => ⟨congrArg Prod.fst h, congrArg Prod.snd h⟩⟩
theorem sh_hoop : SeqAt.shaped (.str "hoop") = true := by decide +kernel
theorem sh_peg : SeqAt.shaped (.str "peg") = true := by decide +kernel
theorem sh_string : SeqAt.shaped (.str "string") = true := by decide +kernel
theorem eq_hp : PyData.eqv (.str "hoop") (.str "peg") = false := by decide +kernel
theorem eq_hs : PyData.eqv (.str "hoop") (.str "string") = false := by decide +kernel
theorem eq_pp : PyData.eqv (.str "peg") (.str "peg") = true := by decide +kernel
theorem four_get {cx cy : Int} {i j : Nat} {d f e : PyData} (h1 : ([.int cx, .int (cx + 1)] : List PyData)[i]? = some d) (h2 : ([.int cy, .int (cy + 1)] : List PyData)[j]? = some f) (h3 : ([q2 cx cy, q2 cx (cy + 1), q2 (cx + 1) cy, q2 (cx + 1) (cy + 1)] : List PyData)[i * 2 + j]? = some e) : ∃ u v, d = .int u ∧ f = .int v ∧ e = q2 u v := by
  match i, j, h1, h2, h3 with
  | 0, 0, h1, h2, h3 => cases h1; cases h2; cases h3; exact ⟨_, _, rfl, rfl, rfl⟩
  | 0, 1, h1, h2, h3 => cases h1; cases h2; cases h3; exact ⟨_, _, rfl, rfl, rfl⟩
  | 1, 0, h1, h2, h3 => cases h1; cases h2; cases h3; exact ⟨_, _, rfl, rfl, rfl⟩
  | 1, 1, h1, h2, h3 => cases h1; cases h2; cases h3; exact ⟨_, _, rfl, rfl, rfl⟩
  | i + 2, _, h1, _, _ => cases h1
  | _, j + 2, _, h2, _ => cases h2
theorem near_get {cx cy m x y r : Int} {n1 n2 n3 n4 : Bool} {i : Nat} {pr : PyData × PyData} {e : PyData} (hx : Sm 100 cx) (hy : Sm 100 cy) (hn : nearL x y r m cx cy = [n1, n2, n3, n4])
    (h1 : ([(.int cx, .int cy), (.int cx, .int (cy + 1)), (.int (cx + 1), .int cy), (.int (cx + 1), .int (cy + 1))] : List (PyData × PyData))[i]? = some pr) (h2 : ([.bool n1, .bool n2, .bool n3, .bool n4] : List PyData)[i]? = some e) :
    ∃ u v n, pr = (.int u, .int v) ∧ e = .bool n ∧ Sm 102 u ∧ Sm 102 v ∧ decide ((u * m - x) * (u * m - x) + (v * m - y) * (v * m - y) ≤ r * r) = n := by
  have hx1 : Sm 101 (cx + 1) := hx.add (.of 1 (by decide))
  have hy1 : Sm 101 (cy + 1) := hy.add (.of 1 (by decide))
  unfold nearL at hn
  injection hn with g1 hn
  injection hn with g2 hn
  injection hn with g3 hn
  injection hn with g4 hn
  match i, h1, h2 with
  | 0, h1, h2 => cases h1; injection h2 with h2; exact ⟨_, _, _, rfl, h2.symm, hx.mono, hy.mono, g1⟩
  | 1, h1, h2 => cases h1; injection h2 with h2; exact ⟨_, _, _, rfl, h2.symm, hx.mono, hy1.mono, g2⟩
  | 2, h1, h2 => cases h1; injection h2 with h2; exact ⟨_, _, _, rfl, h2.symm, hx1.mono, hy.mono, g3⟩
  | 3, h1, h2 => cases h1; injection h2 with h2; exact ⟨_, _, _, rfl, h2.symm, hx1.mono, hy1.mono, g4⟩
  | i + 4, h1, h2 => cases h1
theorem near_ex (x y r m cx cy : Int) : ∃ n1 n2 n3 n4, nearL x y r m cx cy = [n1, n2, n3, n4] := ⟨_, _, _, _, rfl⟩
section
local macro_rules | `(tactic| walk_at "sd") => `(tactic| first | rfl | assumption | exact Nat.le_of_ble_eq_true rfl | decide | omega | (walk_at "sd2"))
local macro_rules | `(tactic| walk_at "sd2") => `(tactic| first | exact cm_sm (by assumption) (by assumption) | exact cf_sm (by assumption) (by assumption) | ((with_reducible apply gs); (walk_at "sd")) | exact cm_fm7 | exact cm_if | exact cm_l (by omega) (by omega) | exact cm_r (by omega) (by omega) | exact cf_c (by omega) (by omega))
local macro_rules | `(tactic| walk_at "isi") => `(tactic| with_reducible first | exact kit_int | exact kit_bool | exact kit_tuple | exact kit_list | exact kit_str)
local macro_rules | `(tactic| walk_at "und") => `(tactic| with_reducible repeat (first | exact Und.nil | apply Und.cons))
local macro_rules | `(tactic| walk_at "op") => `(tactic| (first
  | with_reducible exact o_add | with_reducible exact o_minus | with_reducible exact o_lt | with_reducible exact o_gt | with_reducible exact o_le | with_reducible exact o_ge | with_reducible exact o_neg
  | with_reducible exact o_isN | with_reducible exact o_isntN | with_reducible exact o_isB | with_reducible exact o_isntB | with_reducible exact o_neS | with_reducible exact o_eqS
  | with_reducible exact o_abs | with_reducible exact o_intB | with_reducible exact o_min2 | with_reducible exact o_max2 | with_reducible exact o_lenL | with_reducible exact o_lenT | with_reducible exact o_lenC | with_reducible exact o_gcd
  | with_reducible apply o_ixT | with_reducible apply o_ixL | with_reducible apply o_ixM | with_reducible apply o_ixS | with_reducible apply o_lenM
  | with_reducible apply o_mul | with_reducible apply o_fdiv | with_reducible apply o_mod | with_reducible apply o_pow | with_reducible apply o_eq | with_reducible apply o_ne | with_reducible apply o_catT | with_reducible apply o_repr | with_reducible apply o_all) <;> walk_at "sd")
local macro_rules | `(tactic| walk_at "opn") => `(tactic| (first
  | with_reducible apply o_cat | with_reducible apply o_repI | with_reducible exact o_listT | with_reducible exact o_listL) <;> walk_at "sd")
local macro_rules | `(tactic| walk_at "ea") => `(tactic| first
  | with_reducible exact eva_nil
  | ((with_reducible apply eva_cons); (walk_at "ev"); (walk_at "ea")))
local macro_rules | `(tactic| walk_at "call") => `(tactic| fail)
local macro_rules | `(tactic| walk_at "evn") => `(tactic| first
  | ((with_reducible apply evn_lstU); (walk_at "ea"); (walk_at "und"); (walk_at "sd"))
  | ((with_reducible apply evn_op); (walk_at "ev"); (walk_at "ev"); (walk_at "opn"))
  | ((with_reducible apply evn_cb); (walk_at "ea"); (walk_at "opn"))
  | ((with_reducible apply evn_call); (walk_at "ea"); (walk_at "call")))
local macro_rules | `(tactic| walk_at "ev") => `(tactic| first
  | with_reducible exact ev_int | with_reducible exact ev_bl | with_reducible exact ev_non | with_reducible exact ev_str
  | ((with_reducible apply ev_var); rfl)
  | ((with_reducible apply ev_op); (walk_at "ev"); (walk_at "ev"); (walk_at "op"))
  | ((with_reducible apply ev_un); (walk_at "ev"); (walk_at "op"))
  | ((with_reducible apply ev_call); (walk_at "ea"); (walk_at "call"))
  | ((with_reducible apply ev_callD); (walk_at "ea"); (intro _ _; exact rxs_1); (walk_at "call"))
  | ((with_reducible apply ev_callK); (walk_at "ea"); rfl; (intro _ _ _ hh; first | exact rxs_swap2 hh | exact rxs_same1 hh); (walk_at "call"))
  | ((with_reducible apply ev_isi); (walk_at "ev"); (walk_at "isi"))
  | ((with_reducible apply ev_isi2); (walk_at "ev"); (walk_at "isi"); (walk_at "isi"))
  | ((with_reducible apply ev_cb); (walk_at "ea"); (walk_at "op"))
  | ((with_reducible apply ev_tupU); (walk_at "ea"); (walk_at "und"); (walk_at "sd"))
  | ((with_reducible apply ev_new); (walk_at "evn"))
  | ((with_reducible apply ev_slT); (walk_at "ev"); (walk_at "eo"); (walk_at "eo"))
  | ((with_reducible apply ev_andV); (walk_at "ev"); (intro _; walk_at "ev"); (intro _; rfl))
  | ((with_reducible apply ev_orV); (walk_at "ev"); (intro _; walk_at "ev"); (intro _; rfl))
  | ((with_reducible apply ev_notV); (walk_at "ev")))
local macro_rules | `(tactic| walk_at "eo") => `(tactic| first
  | with_reducible exact eo_none
  | ((with_reducible apply eo_some); (walk_at "ev")))
local macro_rules | `(tactic| walk_at "et") => `(tactic| first
  | ((with_reducible apply et_test); (walk_at "ev"))
  | ((with_reducible apply et_B); (walk_at "ev"))
  | ((with_reducible apply et_not); (walk_at "et"))
  | ((with_reducible apply et_and); (walk_at "et"); (intro _; walk_at "et"); (intro _; rfl))
  | ((with_reducible apply et_or); (walk_at "et"); (intro _; walk_at "et"); (intro _; rfl)))
local macro_rules | `(tactic| walk_at "w") => `(tactic| first
  | (with_reducible apply w_seq)
  | (with_reducible apply w_next)
  | ((with_reducible apply w_asg); (walk_at "ev"))
  | ((with_reducible apply w_ret); (walk_at "ev"))
  | ((with_reducible apply w_drop); (walk_at "ev"))
  | ((with_reducible apply w_par); (walk_at "ea"))
  | ((with_reducible apply w_tup2); (walk_at "ev"))
  | ((with_reducible apply w_tup3); (walk_at "ev"))
  | ((with_reducible apply w_setI); (walk_at "ev"); (walk_at "ev"); (walk_at "ev"); (walk_at "sd"); (walk_at "sd"))
  | ((with_reducible apply w_if); (walk_at "et")))

variable {P : Program} {w : World} {K : Pw.Fg} {mg : Str → Option Value} {base : Heap} {f : Addr} {fd : FuncData}
theorem ok_hoop (Z : Zx mg) (c__whole : Cb P w K mg base "_whole" 1 [] (spF K R_whole)) (c__square : Cb P w K mg base "_square" 1 [] (spF K R_square)) (G : Fun K "_hoop_marks" "_hoop_marks" s__hoop_marks f fd) : FnOk P w K mg base CX0 2 f fd ["stroke", "cell"] (spF K R_hoop) := by
  refine G.ok sc__hoop_marks (spF_len fun xs s x s' h => by cases h; rfl) (fun cdv A outer s H vs Q E hr ⟨M, xs, st, x, st', h, So, rx, qq⟩ => ?_)
  cases h with
  | @mk a b c p q t cx cy _ ha hb hc hx hy =>
  refine ⟨_, (pss_cons (ps_asg (pv 0) (pgk_tup (K := K) 5 (by rfl) (pgs_cons (pg_name (i := 2) sc__hoop_marks.nd rfl (Or.inl rfl)) (pgs_cons (pg_name (i := 2) sc__hoop_marks.nd rfl (Or.inl rfl)) (pgs_cons (pg_name (i := 2) sc__hoop_marks.nd rfl (Or.inl rfl)) (pgs_cons (pg_name (i := 3) sc__hoop_marks.nd rfl (Or.inl rfl)) (pgs_cons (pg_name (i := 4) sc__hoop_marks.nd rfl (Or.inl rfl)) pgs_nil)))))))
      (pss_cons (ps_asg (pe_cb c__whole (hr.mono (by decide)) (by rfl) (pa_cons (pe_lst (StX.pa_star (pv 3) (pa_cons (pv 4) pa_nil))) pa_nil)) (pgk_tup (K := K) 2 (by rfl) (pgs_cons (pg_name (i := 5) sc__hoop_marks.nd rfl (Or.inr rfl)) (pgs_cons (pgk_unl (K := K) 3 (by rfl) (pgs_cons (pg_name (i := 6) sc__hoop_marks.nd rfl (Or.inr rfl)) (pgs_cons (pg_name (i := 7) sc__hoop_marks.nd rfl (Or.inr rfl)) (pgs_cons (pg_name (i := 8) sc__hoop_marks.nd rfl (Or.inr rfl)) pgs_nil)))) pgs_nil))))
      (pss_cons (ps_setLc2 (i := 9) (own := [("left", 11), ("low", 12)]) (vs1 := [12]) rfl sc__hoop_marks.nd rfl rfl (sw_true rfl rfl rfl (by decide +kernel)) (pik_tup (K := K) (pe_tup (pa_cons (pe_ix (ixk (K := K)) (pv 1) (pe_int) (fun _ _ => rfl)) (pa_cons (pe_op (opk_plus (K := K)) (pe_ix (ixk (K := K)) (pv 1) (pe_int) (fun _ _ => rfl)) (pe_int)) pa_nil)))) (blkOk_by (own := [("left", 11), ("low", 12)]) (N := N__hoop_marks) (sc := defScope s__hoop_marks) (by decide +kernel)) (by decide) (fun _ _ _ _ _ => (pg_name (i := 11) sc__hoop_marks.nd rfl (Or.inl rfl))) (fun _ _ _ _ _ => pts_nil) (fun _ _ _ _ _ => (pik_tup (K := K) (pe_tup (pa_cons (pe_ix (ixk (K := K)) (pv 1) (pe_int) (fun _ _ => rfl)) (pa_cons (pe_op (opk_plus (K := K)) (pe_ix (ixk (K := K)) (pv 1) (pe_int) (fun _ _ => rfl)) (pe_int)) pa_nil))))) (fun _ _ _ _ _ => (pg_name (i := 12) sc__hoop_marks.nd rfl (Or.inl rfl))) (fun _ _ _ _ _ => pts_nil) (fun _ _ _ _ _ => pe_tup (pa_cons (pv 11) (pa_cons (pv 12) pa_nil))))
      (pss_cons (ps_setLc (i := 10) rfl sc__hoop_marks.nd rfl rfl (sw_true rfl rfl rfl (by decide +kernel)) (own := [("left", 11), ("low", 12)]) (pik_list (K := K) (pv 9)) (blkOk_by (own := [("left", 11), ("low", 12)]) (N := N__hoop_marks) (sc := defScope s__hoop_marks) (by decide +kernel)) (fun _ _ _ _ _ => (pgk_tup (K := K) 2 (by rfl) (pgs_cons (pg_name (i := 11) sc__hoop_marks.nd rfl (Or.inl rfl)) (pgs_cons (pg_name (i := 12) sc__hoop_marks.nd rfl (Or.inl rfl)) pgs_nil)))) (fun _ _ _ _ _ => pts_nil) (fun _ _ _ _ _ => pe_cmpR op_leA (pe_cb c__square (hr.mono (by decide)) (by rfl) (pa_cons (pe_op op_minus (pe_op op_times (pv 11) (pv 5)) (pv 6)) (pa_cons (pe_op op_minus (pe_op op_times (pv 12) (pv 5)) (pv 7)) pa_nil))) (pe_op op_times (pv 8) (pv 8)) (nomark _)))
      (pss_one (ps_ret (pe_and (pe_cmpR (opb_in (K := K)) (pe_bl) (pv 10) (by rfl)) (pe_one (pe_cmpR (opb_in (K := K)) (pe_bl) (pv 10) (by rfl)))))))))), ?_⟩
  refine w_run So rx ?_
  try simp only [nox_K, cx_K, List.map_cons, List.map_nil]
  have q' := okr_0 qq So.len
  have RW : R_whole [.d (.list [q2 a p, q2 b q, q2 c t])] st (.d (.tuple [.int (lc3 p q t : Int), prt3 a b c p q t])) st := .mk ha hb hc
  obtain ⟨b1, b2, b3⟩ := lc3_le ha.p1 hb.p1 hc.p1
  have sM : Sm 30 (lc3 p q t : Int) := ⟨by rw [Int.natAbs_natCast]; omega⟩
  have sf : ∀ r : Nat, 0 < r → Sm 30 ((lc3 p q t : Int).fdiv r) := fun r h => sM.le (fdiv_le (by omega))
  have sx : Sm 130 (a * (lc3 p q t : Int).fdiv p) := ha.sa.mul (sf p ha.p0)
  have sy : Sm 130 (b * (lc3 p q t : Int).fdiv q) := hb.sa.mul (sf q hb.p0)
  have sr : Sm 130 (c * (lc3 p q t : Int).fdiv t) := hc.sa.mul (sf t hc.p0)
  have e0 : hpB a b c p q t cx cy = ((nearL (a * (lc3 p q t : Int).fdiv p) (b * (lc3 p q t : Int).fdiv q) (c * (lc3 p q t : Int).fdiv t) (lc3 p q t : Int) cx cy).any (· == true) && (nearL (a * (lc3 p q t : Int).fdiv p) (b * (lc3 p q t : Int).fdiv q) (c * (lc3 p q t : Int).fdiv t) (lc3 p q t : Int) cx cy).any (· == false)) := rfl
  rw [e0] at q'
  clear e0
  unfold prt3 at RW
  generalize a * (lc3 p q t : Int).fdiv p = x at *
  generalize b * (lc3 p q t : Int).fdiv q = y at *
  generalize c * (lc3 p q t : Int).fdiv t = r at *
  generalize (lc3 p q t : Int) = m at *
  obtain ⟨n1, n2, n3, n4, en⟩ := near_ex x y r m cx cy
  rw [en] at q'
  walk_at "w"
  refine w_asgG (d := hoopT a b c p q t) (s1 := st) (ev_var rfl) (gb_tup5 gb_name gb_name gb_name gb_name gb_name) ?_
  dsimp only [List.set]
  walk_at "w"
  refine w_asgG (s1 := st) (ev_call (eva_cons (ev_new (evn_lstU (ds := [q2 a p, q2 b q, q2 c t]) (xs := [.d (q2 a p), .d (q2 b q), .d (q2 c t)]) (eva_star (ds := [q2 a p, q2 b q]) (ev_var rfl) (eva_cons (ev_var rfl) eva_nil)) (.cons (.cons (.cons .nil))) (Nat.le_of_ble_eq_true rfl))) eva_nil) RW) (gb_tup2 gb_name (gb_unl3 gb_name gb_name gb_name)) ?_
  dsimp only [List.set]
  walk_at "w"
  refine w_asg (x := .d (.list [q2 cx cy, q2 cx (cy + 1), q2 (cx + 1) cy, q2 (cx + 1) (cy + 1)])) (s1 := st) (ev_new (evn_lc2T (ds := [.int cx, .int (cx + 1)]) (fs := [.int cy, .int (cy + 1)]) (by decide) ?_ ?_ ?_ rfl (Nat.le_of_ble_eq_true rfl))) ?_
  · exact ev_tupU (eva_cons (ev_op (ev_var rfl) ev_int (o_ixT rfl)) (eva_cons (ev_op (ev_op (ev_var rfl) ev_int (o_ixT rfl)) ev_int o_add) eva_nil)) (.cons (.cons .nil)) (Nat.le_of_ble_eq_true rfl)
  · intro d _ s'
    exact ev_tupU (eva_cons (ev_op (ev_var rfl) ev_int (o_ixT rfl)) (eva_cons (ev_op (ev_op (ev_var rfl) ev_int (o_ixT rfl)) ev_int o_add) eva_nil)) (.cons (.cons .nil)) (Nat.le_of_ble_eq_true rfl)
  · intro i j d f e h1 h2 h3 s'
    obtain ⟨u, v, rfl, rfl, rfl⟩ := four_get h1 h2 h3
    exact ev_tupU (eva_cons (ev_var rfl) (eva_cons (ev_var rfl) eva_nil)) (.cons (.cons .nil)) (Nat.le_of_ble_eq_true rfl)
  dsimp only [List.set]
  walk_at "w"
  have sq : ∀ (u v : Int) (s' : Sto), Sm 102 u → Sm 102 v → CM u m ∧ CM v m ∧ CM r r ∧ R_square [.d (.int (u * m - x)), .d (.int (v * m - y))] s' (.d (.int ((u * m - x) * (u * m - x) + (v * m - y) * (v * m - y)))) s' := fun u v s' hu hv => by
    have h1 : Sm 132 (u * m) := hu.mul sM
    have h2 : Sm 132 (v * m) := hv.mul sM
    have h3 : Sm 133 (u * m - x) := h1.sub sx.mono
    have h4 : Sm 133 (v * m - y) := h2.sub sy.mono
    exact ⟨cm_sm hu sM, cm_sm hv sM, cm_sm sr sr, .mk h3.mono h4.mono⟩
  have go : ∀ (u v : Int) (n : Bool) (s' : Sto) (z : PyData), Sm 102 u → Sm 102 v → decide ((u * m - x) * (u * m - x) + (v * m - y) * (v * m - y) ≤ r * r) = n → Ev K (tOp rLe (tCall (spF K R_square) [] E0 (tCons (tOp rMinus (tOp rTimes (tVar 11) (tVar 5)) (tVar 6)) (tCons (tOp rMinus (tOp rTimes (tVar 12) (tVar 5)) (tVar 7)) tNil))) (tOp rTimes (tVar 8) (tVar 8)))
      [some (.d (hoopT a b c p q t)), some (.d (q2 cx cy)), some (.d (.str "c")), some (.d (.tuple [q2 a p, q2 b q])), some (.d (q2 c t)), some (.d (.int m)), some (.d (.int x)), some (.d (.int y)), some (.d (.int r)), some (.d z), none, some (.d (.int u)), some (.d (.int v))] s' (.d (.bool n)) s' := fun u v n s' z hu hv hn => by
    obtain ⟨z1, z2, z3, z4⟩ := sq u v s' hu hv
    exact Ev.is (ev_op (ev_call (eva_cons (ev_op (ev_op (ev_var rfl) (ev_var rfl) (o_mul z1)) (ev_var rfl) o_minus) (eva_cons (ev_op (ev_op (ev_var rfl) (ev_var rfl) (o_mul z2)) (ev_var rfl) o_minus) eva_nil)) z4) (ev_op (ev_var rfl) (ev_var rfl) (o_mul z3)) o_le) (by rw [hn])
  refine w_asg (x := .d (.list ([n1, n2, n3, n4].map PyData.bool))) (s1 := st) (ev_new (evn_lcP (S := fun _ => st) (es := [.bool n1, .bool n2, .bool n3, .bool n4]) (ps := [(.int cx, .int cy), (.int cx, .int (cy + 1)), (.int (cx + 1), .int cy), (.int (cx + 1), .int (cy + 1))]) (ev_var rfl) rfl (Nat.le_of_ble_eq_true rfl) ?_)) ?_
  · intro i pr e h1 h2
    obtain ⟨u, v, n, rfl, rfl, hu, hv, hn⟩ := near_get hx hy en h1 h2
    exact go u v n _ _ hu hv hn
  dsimp only [List.set]
  exact w_ret (s1 := st) (ev_andV (ev_op ev_bl (ev_var rfl) o_boolIn) (fun _ => ev_op ev_bl (ev_var rfl) o_boolIn) (fun _ => rfl)) q'
theorem no_fn {n : Nat} {ps : List Str} : FnOk P w K mg base CX0 n f fd ps (spF K R_none) := by
  refine ⟨?_, ?_⟩
  · rintro vs H Q E ⟨M, xs, st, x, st', h, _⟩
    cases h
  · rintro A outer s H args us vs Q E hr e0 hb hv ⟨M, xs, st, x, st', h, _⟩
    cases h
theorem ok_marks (Z : Zx mg) (c__cell_of : Cb P w K mg base "_cell_of" 2 [] (spF K R_cellof)) (c__string_marks : Cb P w K mg base "_string_marks" 2 [] (spF K R_none)) (c__hoop_marks : Cb P w K mg base "_hoop_marks" 2 [] (spF K R_hoop)) (G : Fun K "marks" "marks" s_marks f fd) : FnOk P w K mg base CX0 3 f fd ["stroke", "cell"] (spF K R_marks) := by
  refine G.ok sc_marks (spF_len fun xs s x s' h => by cases h <;> rfl) (fun cdv A outer s H vs Q E hr ⟨M, xs, st, x, st', h, So, rx, qq⟩ => ?_)
  refine ⟨_, (pss_cons (ps_if (pt_cmpR (opk_eq (K := K) hr.units) (pe_ix (ixk (K := K)) (pv 0) (pe_int) (fun _ _ => rfl)) (pe_str) (nomark _)) (pss_one (ps_ret (pe_cmpR (opk_eq (K := K) hr.units) (pe_cb c__cell_of (hr.mono (by decide)) (by rfl) (pa_cons (pe_ix (ixk (K := K)) (pv 0) (pe_int) (fun _ _ => rfl)) pa_nil)) (pe_callTy (cbk_tup (K := K)) (by rfl) Z.z_tuple bt_tuple (pa_cons (pv 1) pa_nil)) (nomark _)))) pss_nil)
      (pss_cons (ps_if (pt_cmpR (opk_eq (K := K) hr.units) (pe_ix (ixk (K := K)) (pv 0) (pe_int) (fun _ _ => rfl)) (pe_str) (nomark _)) (pss_one (ps_ret (pe_cb c__string_marks (hr.mono (by decide)) (by rfl) (pa_cons (pv 0) (pa_cons (pv 1) pa_nil))))) pss_nil)
      (pss_one (ps_ret (pe_cb c__hoop_marks (hr.mono (by decide)) (by rfl) (pa_cons (pv 0) (pa_cons (pv 1) pa_nil))))))), ?_⟩
  cases h with
  | @hoop a b c p q t cx cy _ ha hb hc hx hy =>
    refine w_run So rx ?_
    try simp only [nox_K, cx_K, List.map_cons, List.map_nil]
    have q' := okr_0 qq So.len
    walk_at "w"
    refine w_if (b := false) (s1 := st) (EvT.is (et_test (ev_op (ev_op (ev_var rfl) ev_int (o_ixT rfl)) ev_str (o_eq sh_hoop sh_peg))) eq_hp) (fun c => by cases c) ?_
    intro _
    walk_at "w"
    refine w_if (b := false) (s1 := st) (EvT.is (et_test (ev_op (ev_op (ev_var rfl) ev_int (o_ixT rfl)) ev_str (o_eq sh_hoop sh_string))) eq_hs) (fun c => by cases c) ?_
    intro _
    exact w_ret (ev_call (eva_cons (ev_var rfl) (eva_cons (ev_var rfl) eva_nil)) (.mk ha hb hc hx hy)) q'
  | @peg a b p q cx cy _ ha hb =>
    refine w_run So rx ?_
    try simp only [nox_K, cx_K, List.map_cons, List.map_nil]
    have q' := okr_0 qq So.len
    have p0 := ha.p0; have q0 := hb.p0
    have RC : R_cellof [.d (.tuple [q2 a p, q2 b q])] st _ st := .mk (by omega) (smn 1000 ha.p1).mono (by omega) (smn 1000 hb.p1).mono
    walk_at "w"
    refine w_if (b := true) (s1 := st) (EvT.is (et_test (ev_op (ev_op (ev_var rfl) ev_int (o_ixT rfl)) ev_str (o_eq sh_peg sh_peg))) eq_pp) ?_ (fun c => by cases c)
    intro _
    exact w_ret (Ev.is (ev_op (ev_call (eva_cons (ev_op (ev_var rfl) ev_int (o_ixT rfl)) eva_nil) RC) (ev_cb (eva_cons (ev_var rfl) eva_nil) o_tupT) (o_eq sh2 sh2)) (by rw [eqv_q2])) q'
end
end K47
namespace K47
open PySem L2 Pw Km
theorem Lq.trans {a b c : En} (h : Lq a b) (h2 : Lq b c) : Lq a c := by
  induction h generalizing c with
  | nil => cases h2; exact .nil
  | same h ih =>
    cases h2 with
    | same h2 => exact .same (ih h2)
    | none h2 => exact .none (ih h2)
  | none h ih =>
    cases h2 with
    | same h2 => exact .none (ih h2)
    | none h2 => exact .none (ih h2)
def rdB (a b c : Int) (p q t : Nat) (cx cy : Int) : Bool :=
  (nearL (a * ((p * q * t : Nat) : Int).fdiv p) (b * ((p * q * t : Nat) : Int).fdiv q) (c * ((p * q * t : Nat) : Int).fdiv t) ((p * q * t : Nat) : Int) cx cy).any id && !(nearL (a * ((p * q * t : Nat) : Int).fdiv p) (b * ((p * q * t : Nat) : Int).fdiv q) (c * ((p * q * t : Nat) : Int).fdiv t) ((p * q * t : Nat) : Int) cx cy).all id
theorem rd_hp {a b c : Int} {p q t : Nat} {cx cy : Int} (hp : 0 < p) (hq : 0 < q) (ht : 0 < t) : rdB a b c p q t cx cy = hpB a b c p q t cx cy := by
  unfold rdB hpB
  rw [near_same hp hq ht, any_t, any_f]
inductive R_round : Gr
  | mk {a b c : Int} {p q t : Nat} {cx cy : Int} {s} (ha : Fr a p) (hb : Fr b q) (hc : Fr c t) (hx : Sm 100 cx) (hy : Sm 100 cy) : R_round [.d (.tuple [q2 a p, q2 b q]), .d (q2 c t), .d (q2 cx cy)] s (.d (.bool (rdB a b c p q t cx cy))) s
inductive R_marked : Gr
  | hoop {a b c : Int} {p q t : Nat} {cx cy : Int} {s} (ha : Fr a p) (hb : Fr b q) (hc : Fr c t) (hx : Sm 100 cx) (hy : Sm 100 cy) : R_marked [.d (hoopT a b c p q t), .d (q2 cx cy)] s (.d (.bool (hpB a b c p q t cx cy))) s
  | peg {a b : Int} {p q : Nat} {cx cy : Int} {s} (ha : Fr a p) (hb : Fr b q) : R_marked [.d (pegT a b p q), .d (q2 cx cy)] s (.d (.bool (decide ((a.fdiv p, b.fdiv q) = (cx, cy))))) s
theorem two_get {i : Nat} {d : PyData} (h : ([.int 0, .int 1] : List PyData)[i]? = some d) : d = .int (i : Int) ∧ i < 2 := by
  match i, h with
  | 0, h => cases h; exact ⟨rfl, by decide⟩
  | 1, h => cases h; exact ⟨rfl, by decide⟩
  | i + 2, h => cases h
abbrev bls (n1 n2 n3 n4 : Bool) : List PyData := [.bool n1, .bool n2, .bool n3, .bool n4]
theorem near_at {x y r m cx cy : Int} {n1 n2 n3 n4 : Bool} {i j : Nat} (hn : nearL x y r m cx cy = [n1, n2, n3, n4]) (hi : i < 2) (hj : j < 2) :
    ∃ n, decide (((cx + i) * m - x) * ((cx + i) * m - x) + ((cy + j) * m - y) * ((cy + j) * m - y) ≤ r * r) = n ∧ (bls n1 n2 n3 n4).take (2 * i + j) ++ [.bool n] = (bls n1 n2 n3 n4).take (2 * i + (j + 1)) := by
  unfold nearL at hn
  injection hn with g1 hn
  injection hn with g2 hn
  injection hn with g3 hn
  injection hn with g4 hn
  have z : ∀ c : Int, c + ((0 : Nat) : Int) = c := fun c => Int.add_zero c
  have o : ∀ c : Int, c + ((1 : Nat) : Int) = c + 1 := fun c => rfl
  match i, j, hi, hj with
  | 0, 0, _, _ => exact ⟨_, by rw [z, z]; exact g1, rfl⟩
  | 0, 1, _, _ => exact ⟨_, by rw [z, o]; exact g2, rfl⟩
  | 1, 0, _, _ => exact ⟨_, by rw [z, o]; exact g3, rfl⟩
  | 1, 1, _, _ => exact ⟨_, by rw [o, o]; exact g4, rfl⟩
theorem fr_get {a b c : Int} {p q t m : Nat} {i : Nat} {pr : PyData × PyData} {e : PyData} (ha : Fr a p) (hb : Fr b q) (hc : Fr c t)
    (h1 : ([(.int a, .int p), (.int b, .int q), (.int c, .int t)] : List (PyData × PyData))[i]? = some pr) (h2 : ([.int (a * (m : Int).fdiv p), .int (b * (m : Int).fdiv q), .int (c * (m : Int).fdiv t)] : List PyData)[i]? = some e) :
    ∃ (x : Int) (r : Nat), pr = (.int x, .int r) ∧ e = .int (x * (m : Int).fdiv r) ∧ Fr x r := by
  match i, h1, h2 with
  | 0, h1, h2 => cases h1; cases h2; exact ⟨_, _, rfl, rfl, ha⟩
  | 1, h1, h2 => cases h1; cases h2; exact ⟨_, _, rfl, rfl, hb⟩
  | 2, h1, h2 => cases h1; cases h2; exact ⟨_, _, rfl, rfl, hc⟩
  | i + 3, h1, h2 => cases h1
section
local macro_rules | `(tactic| walk_at "sd") => `(tactic| first | rfl | assumption | exact Nat.le_of_ble_eq_true rfl | decide | omega | (walk_at "sd2"))
local macro_rules | `(tactic| walk_at "sd2") => `(tactic| first | exact cm_sm (by assumption) (by assumption) | exact cf_sm (by assumption) (by assumption) | ((with_reducible apply gs); (walk_at "sd")) | exact cm_fm7 | exact cm_if | exact cm_l (by omega) (by omega) | exact cm_r (by omega) (by omega) | exact cf_c (by omega) (by omega))
local macro_rules | `(tactic| walk_at "isi") => `(tactic| with_reducible first | exact kit_int | exact kit_bool | exact kit_tuple | exact kit_list | exact kit_str)
local macro_rules | `(tactic| walk_at "und") => `(tactic| with_reducible repeat (first | exact Und.nil | apply Und.cons))
local macro_rules | `(tactic| walk_at "op") => `(tactic| (first
  | with_reducible exact o_add | with_reducible exact o_minus | with_reducible exact o_lt | with_reducible exact o_gt | with_reducible exact o_le | with_reducible exact o_ge | with_reducible exact o_neg
  | with_reducible exact o_isN | with_reducible exact o_isntN | with_reducible exact o_isB | with_reducible exact o_isntB | with_reducible exact o_neS | with_reducible exact o_eqS
  | with_reducible exact o_abs | with_reducible exact o_intB | with_reducible exact o_min2 | with_reducible exact o_max2 | with_reducible exact o_lenL | with_reducible exact o_lenT | with_reducible exact o_lenC | with_reducible exact o_gcd
  | with_reducible apply o_ixT | with_reducible apply o_ixL | with_reducible apply o_ixM | with_reducible apply o_ixS | with_reducible apply o_lenM
  | with_reducible apply o_mul | with_reducible apply o_fdiv | with_reducible apply o_mod | with_reducible apply o_pow | with_reducible apply o_eq | with_reducible apply o_ne | with_reducible apply o_catT | with_reducible apply o_repr | with_reducible apply o_all) <;> walk_at "sd")
local macro_rules | `(tactic| walk_at "opn") => `(tactic| (first
  | with_reducible apply o_cat | with_reducible apply o_repI | with_reducible exact o_listT | with_reducible exact o_listL) <;> walk_at "sd")
local macro_rules | `(tactic| walk_at "ea") => `(tactic| first
  | with_reducible exact eva_nil
  | ((with_reducible apply eva_cons); (walk_at "ev"); (walk_at "ea")))
local macro_rules | `(tactic| walk_at "call") => `(tactic| fail)
local macro_rules | `(tactic| walk_at "evn") => `(tactic| first
  | ((with_reducible apply evn_lstU); (walk_at "ea"); (walk_at "und"); (walk_at "sd"))
  | ((with_reducible apply evn_op); (walk_at "ev"); (walk_at "ev"); (walk_at "opn"))
  | ((with_reducible apply evn_cb); (walk_at "ea"); (walk_at "opn"))
  | ((with_reducible apply evn_call); (walk_at "ea"); (walk_at "call")))
local macro_rules | `(tactic| walk_at "ev") => `(tactic| first
  | with_reducible exact ev_int | with_reducible exact ev_bl | with_reducible exact ev_non | with_reducible exact ev_str
  | ((with_reducible apply ev_var); rfl)
  | ((with_reducible apply ev_op); (walk_at "ev"); (walk_at "ev"); (walk_at "op"))
  | ((with_reducible apply ev_un); (walk_at "ev"); (walk_at "op"))
  | ((with_reducible apply ev_call); (walk_at "ea"); (walk_at "call"))
  | ((with_reducible apply ev_callD); (walk_at "ea"); (intro _ _; exact rxs_1); (walk_at "call"))
  | ((with_reducible apply ev_callK); (walk_at "ea"); rfl; (intro _ _ _ hh; first | exact rxs_swap2 hh | exact rxs_same1 hh); (walk_at "call"))
  | ((with_reducible apply ev_isi); (walk_at "ev"); (walk_at "isi"))
  | ((with_reducible apply ev_isi2); (walk_at "ev"); (walk_at "isi"); (walk_at "isi"))
  | ((with_reducible apply ev_cb); (walk_at "ea"); (walk_at "op"))
  | ((with_reducible apply ev_tupU); (walk_at "ea"); (walk_at "und"); (walk_at "sd"))
  | ((with_reducible apply ev_new); (walk_at "evn"))
  | ((with_reducible apply ev_slT); (walk_at "ev"); (walk_at "eo"); (walk_at "eo"))
  | ((with_reducible apply ev_andV); (walk_at "ev"); (intro _; walk_at "ev"); (intro _; rfl))
  | ((with_reducible apply ev_orV); (walk_at "ev"); (intro _; walk_at "ev"); (intro _; rfl))
  | ((with_reducible apply ev_notV); (walk_at "ev")))
local macro_rules | `(tactic| walk_at "eo") => `(tactic| first
  | with_reducible exact eo_none
  | ((with_reducible apply eo_some); (walk_at "ev")))
local macro_rules | `(tactic| walk_at "et") => `(tactic| first
  | ((with_reducible apply et_test); (walk_at "ev"))
  | ((with_reducible apply et_B); (walk_at "ev"))
  | ((with_reducible apply et_not); (walk_at "et"))
  | ((with_reducible apply et_and); (walk_at "et"); (intro _; walk_at "et"); (intro _; rfl))
  | ((with_reducible apply et_or); (walk_at "et"); (intro _; walk_at "et"); (intro _; rfl)))
local macro_rules | `(tactic| walk_at "w") => `(tactic| first
  | (with_reducible apply w_seq)
  | (with_reducible apply w_next)
  | ((with_reducible apply w_asg); (walk_at "ev"))
  | ((with_reducible apply w_ret); (walk_at "ev"))
  | ((with_reducible apply w_drop); (walk_at "ev"))
  | ((with_reducible apply w_par); (walk_at "ea"))
  | ((with_reducible apply w_tup2); (walk_at "ev"))
  | ((with_reducible apply w_tup3); (walk_at "ev"))
  | ((with_reducible apply w_setI); (walk_at "ev"); (walk_at "ev"); (walk_at "ev"); (walk_at "sd"); (walk_at "sd"))
  | ((with_reducible apply w_if); (walk_at "et")))

variable {P : Program} {w : World} {K : Pw.Fg} {mg : Str → Option Value} {base : Heap} {f : Addr} {fd : FuncData}
theorem ok_round (Z : Zx mg) (G : Fun K "_law_round" "_law_round" s__law_round f fd) : FnOk P w K mg base CX0 1 f fd ["_law_start", "_law_size", "_law_spot"] (spF K R_round) := by
  refine G.ok sc__law_round (spF_len fun xs s x s' h => by cases h; rfl) (fun cdv A outer s H vs Q E hr ⟨M, xs, st, x, st', h, So, rx, qq⟩ => ?_)
  cases h with
  | @mk a b c p q t cx cy _ ha hb hc hx hy =>
  refine ⟨_, (pss_cons (ps_set (i := 3) sc__law_round.nd rfl (.inr rfl) (pe_op op_times (pe_op op_times (pe_ix (ixk (K := K)) (pe_ix (ixk (K := K)) (pv 0) (pe_int) (fun _ _ => rfl)) (pe_int) (fun _ _ => rfl)) (pe_ix (ixk (K := K)) (pe_ix (ixk (K := K)) (pv 0) (pe_int) (fun _ _ => rfl)) (pe_int) (fun _ _ => rfl))) (pe_ix (ixk (K := K)) (pv 1) (pe_int) (fun _ _ => rfl))))
      (pss_cons (ps_asg (pe_lc (own := [("_law_top", 12), ("_law_under", 13)]) rfl sc__law_round.nd (pik_tup (K := K) (pe_tup (pa_cons (pe_ix (ixk (K := K)) (pv 0) (pe_int) (fun _ _ => rfl)) (pa_cons (pe_ix (ixk (K := K)) (pv 0) (pe_int) (fun _ _ => rfl)) (pa_cons (pv 1) pa_nil))))) (blkOk_by (own := [("_law_top", 12), ("_law_under", 13)]) (N := N__law_round) (sc := defScope s__law_round) (by decide +kernel)) (fun _ _ _ _ _ => (pgk_tup (K := K) 2 (by rfl) (pgs_cons (pg_name (i := 12) sc__law_round.nd rfl (Or.inl rfl)) (pgs_cons (pg_name (i := 13) sc__law_round.nd rfl (Or.inl rfl)) pgs_nil)))) (fun _ _ _ _ _ => pts_nil) (fun _ _ _ _ _ => pe_op op_times (pv 12) (pe_op op_fdivA (pv 3) (pv 13)))) (pgk_unl (K := K) 3 (by rfl) (pgs_cons (pg_name (i := 4) sc__law_round.nd rfl (Or.inl rfl)) (pgs_cons (pg_name (i := 5) sc__law_round.nd rfl (Or.inl rfl)) (pgs_cons (pg_name (i := 6) sc__law_round.nd rfl (Or.inl rfl)) pgs_nil)))))
      (pss_cons (ps_set (i := 7) sc__law_round.nd rfl (.inl rfl) (pe_lst pa_nil))
      (pss_cons (ps_for PassesOwn.never rfl (pik_tup (K := K) (pe_tup (pa_cons (pe_int) (pa_cons (pe_int) pa_nil)))) (pg_name (i := 8) sc__law_round.nd rfl (Or.inl rfl)) (pss_one (ps_for PassesOwn.never rfl (pik_tup (K := K) (pe_tup (pa_cons (pe_int) (pa_cons (pe_int) pa_nil)))) (pg_name (i := 9) sc__law_round.nd rfl (Or.inl rfl)) (pss_cons (ps_set (i := 10) sc__law_round.nd rfl (.inl rfl) (pe_op op_minus (pe_op op_times (pe_op (opk_plus (K := K)) (pe_ix (ixk (K := K)) (pv 2) (pe_int) (fun _ _ => rfl)) (pv 8)) (pv 3)) (pv 4)))
      (pss_cons (ps_set (i := 11) sc__law_round.nd rfl (.inl rfl) (pe_op op_minus (pe_op op_times (pe_op (opk_plus (K := K)) (pe_ix (ixk (K := K)) (pv 2) (pe_int) (fun _ _ => rfl)) (pv 9)) (pv 3)) (pv 5)))
      (pss_one (ps_expr (pe_bm PySem.F.plainAttrs_list PySem.F.slot_list_append PySem.F.type_list_append mt_append (pv 7) (pa_cons (pe_cmpR op_leA (pe_op (opk_plus (K := K)) (pe_op op_times (pv 10) (pv 10)) (pe_op op_times (pv 11) (pv 11))) (pe_op op_times (pv 6) (pv 6)) (nomark _)) pa_nil)))))))))
      (pss_one (ps_ret (pe_and (pe_callB (cbk_any (K := K) rfl) (by rfl) Z.z_any bt_any (pa_cons (pv 7) pa_nil)) (pe_one (pe_not (pe_callB (cbk_all (K := K) rfl) (by rfl) Z.z_all bt_all (pa_cons (pv 7) pa_nil))))))))))), ?_⟩
  refine w_run So rx ?_
  try simp only [nox_K, cx_K, List.map_cons, List.map_nil]
  have q' := okr_0 qq So.len
  have sp : Sm 20 (p : Int) := smn 1000 ha.p1
  have sq : Sm 20 (q : Int) := smn 1000 hb.p1
  have st' : Sm 20 (t : Int) := smn 1000 hc.p1
  have s2 : Sm 40 ((p : Int) * q) := sp.mul sq
  have s3 : Sm 60 ((p : Int) * q * t) := s2.mul st'
  have em : (p : Int) * q * t = ((p * q * t : Nat) : Int) := by rw [Int.natCast_mul, Int.natCast_mul]
  have c1 : CM (p : Int) q := cm_sm sp sq
  have c2 : CM ((p : Int) * q) t := cm_sm s2 st'
  rw [em] at s3
  have sf : ∀ r : Nat, 0 < r → Sm 60 (((p * q * t : Nat) : Int).fdiv r) := fun r h => s3.le (fdiv_le (by omega))
  have LC : ∀ (e : Int) (r : Nat), Fr e r → CM e (((p * q * t : Nat) : Int).fdiv r) ∧ CF ((p * q * t : Nat) : Int) r := fun e r h => by
    have r0 := h.p0
    have r1 := h.p1
    exact ⟨cm_sm h.sa (sf r r0), cf_sm (by omega) (smn 1000 r1)⟩
  have sx : Sm 160 (a * ((p * q * t : Nat) : Int).fdiv p) := ha.sa.mul (sf p ha.p0)
  have sy : Sm 160 (b * ((p * q * t : Nat) : Int).fdiv q) := hb.sa.mul (sf q hb.p0)
  have sr : Sm 160 (c * ((p * q * t : Nat) : Int).fdiv t) := hc.sa.mul (sf t hc.p0)
  have e0 : rdB a b c p q t cx cy = ((nearL (a * ((p * q * t : Nat) : Int).fdiv p) (b * ((p * q * t : Nat) : Int).fdiv q) (c * ((p * q * t : Nat) : Int).fdiv t) ((p * q * t : Nat) : Int) cx cy).any id && !(nearL (a * ((p * q * t : Nat) : Int).fdiv p) (b * ((p * q * t : Nat) : Int).fdiv q) (c * ((p * q * t : Nat) : Int).fdiv t) ((p * q * t : Nat) : Int) cx cy).all id) := rfl
  rw [e0] at q'
  clear e0
  obtain ⟨n1, n2, n3, n4, en⟩ := near_ex (a * ((p * q * t : Nat) : Int).fdiv p) (b * ((p * q * t : Nat) : Int).fdiv q) (c * ((p * q * t : Nat) : Int).fdiv t) ((p * q * t : Nat) : Int) cx cy
  rw [en] at q'
  walk_at "w"
  refine w_asg (x := .d (.int ((p * q * t : Nat) : Int))) (s1 := st) (Ev.is (ev_op (ev_op (ev_op (ev_op (ev_var rfl) ev_int (o_ixT rfl)) ev_int (o_ixT rfl)) (ev_op (ev_op (ev_var rfl) ev_int (o_ixT rfl)) ev_int (o_ixT rfl)) (o_mul c1)) (ev_op (ev_var rfl) ev_int (o_ixT rfl)) (o_mul c2)) (by rw [em])) ?_
  dsimp only [List.set]
  walk_at "w"
  refine w_asgG (d := .list [.int (a * ((p * q * t : Nat) : Int).fdiv p), .int (b * ((p * q * t : Nat) : Int).fdiv q), .int (c * ((p * q * t : Nat) : Int).fdiv t)]) (s1 := st) (ev_new (evn_lcQ (S := fun _ => st) (ps := [(.int a, .int p), (.int b, .int q), (.int c, .int t)]) ?_ rfl (Nat.le_of_ble_eq_true rfl) ?_)) (gb_unl3 gb_name gb_name gb_name) ?_
  · exact ev_tupU (xs := [.d (q2 a p), .d (q2 b q), .d (q2 c t)]) (eva_cons (ev_op (ev_var rfl) ev_int (o_ixT rfl)) (eva_cons (ev_op (ev_var rfl) ev_int (o_ixT rfl)) (eva_cons (ev_var rfl) eva_nil))) (.cons (.cons (.cons .nil))) (Nat.le_of_ble_eq_true rfl)
  · intro i pr e h1 h2
    obtain ⟨x, r, rfl, rfl, hf⟩ := fr_get ha hb hc h1 h2
    obtain ⟨z1, z2⟩ := LC x r hf
    exact ev_op (ev_var rfl) (ev_op (ev_var rfl) (ev_var rfl) (o_fdiv z2)) (o_mul z1)
  dsimp only [List.set]
  generalize a * ((p * q * t : Nat) : Int).fdiv p = x at *
  generalize b * ((p * q * t : Nat) : Int).fdiv q = y at *
  generalize c * ((p * q * t : Nat) : Int).fdiv t = r at *
  generalize ((p * q * t : Nat) : Int) = m at *
  walk_at "w"
  refine w_asgN (s1 := st) (ds := []) (evn_lstU (xs := []) eva_nil .nil (Nat.zero_le _)) ?_
  dsimp only [List.set]
  walk_at "w"
  have app : ∀ (ds : List PyData) (e : PyData), (st ++ [ds]).set st.length (ds ++ [e]) = st ++ [ds ++ [e]] := fun ds e => by
    rw [List.set_append_right _ _ (Nat.le_refl _), Nat.sub_self]; rfl
  have gt : ∀ ds : List PyData, (st ++ [ds])[st.length]? = some ds := fun ds => by simp
  refine w_forT (ds := [.int 0, .int 1]) (fun d ρ => ρ.set 8 (some (.d d))) (fun d _ => gb_name) (s1 := st ++ [[]]) (ev_tupU (xs := [.d (.int 0), .d (.int 1)]) (eva_cons ev_int (eva_cons ev_int eva_nil)) (.cons (.cons .nil)) (Nat.le_of_ble_eq_true rfl))
    (fun i ρ s => s = st ++ [(bls n1 n2 n3 n4).take (2 * i)] ∧ Lq [some (.d (.tuple [q2 a p, q2 b q])), some (.d (q2 c t)), some (.d (q2 cx cy)), some (.d (.int m)), some (.d (.int x)), some (.d (.int y)), some (.d (.int r)), some (.loc st.length), none, none, none, none, none, none] ρ) ⟨rfl, Lq.refl _⟩ ?_ ?_
  · rintro v i d ρ s2 N hd ⟨rfl, hq⟩ hN
    obtain ⟨rfl, hi⟩ := two_get hd
    refine w_wk (hq.set 8 (some (.d (.int (i : Int))))) ?_
    dsimp only [List.set]
    refine w_forT (ds := [.int 0, .int 1]) (fun d ρ => ρ.set 9 (some (.d d))) (fun d _ => gb_name) (s1 := st ++ [(bls n1 n2 n3 n4).take (2 * i)]) (ev_tupU (xs := [.d (.int 0), .d (.int 1)]) (eva_cons ev_int (eva_cons ev_int eva_nil)) (.cons (.cons .nil)) (Nat.le_of_ble_eq_true rfl))
      (fun j ρ s => s = st ++ [(bls n1 n2 n3 n4).take (2 * i + j)] ∧ Lq [some (.d (.tuple [q2 a p, q2 b q])), some (.d (q2 c t)), some (.d (q2 cx cy)), some (.d (.int m)), some (.d (.int x)), some (.d (.int y)), some (.d (.int r)), some (.loc st.length), some (.d (.int (i : Int))), none, none, none, none, none] ρ) ⟨rfl, Lq.refl _⟩ ?_ ?_
    · rintro v2 j d2 ρ s2 N2 hd2 ⟨rfl, hq2⟩ hN2
      obtain ⟨rfl, hj⟩ := two_get hd2
      refine w_wk (hq2.set 9 (some (.d (.int (j : Int))))) ?_
      dsimp only [List.set]
      obtain ⟨n, hn, tk⟩ := near_at en hi hj
      have z1 : Sm 101 (cx + (i : Int)) := hx.add (smn (k := i) 2 (by omega)).mono
      have z2 : Sm 101 (cy + (j : Int)) := hy.add (smn (k := j) 2 (by omega)).mono
      have z3 : Sm 161 ((cx + (i : Int)) * m) := z1.mul s3
      have z4 : Sm 161 ((cy + (j : Int)) * m) := z2.mul s3
      have z5 : Sm 162 ((cx + (i : Int)) * m - x) := z3.sub sx.mono
      have z6 : Sm 162 ((cy + (j : Int)) * m - y) := z4.sub sy.mono
      walk_at "w"
      refine w_asg (x := .d (.int ((cx + (i : Int)) * m - x))) (s1 := st ++ [(bls n1 n2 n3 n4).take (2 * i + j)]) (ev_op (ev_op (ev_op (ev_op (ev_var rfl) ev_int (o_ixT rfl)) (ev_var rfl) o_add) (ev_var rfl) (o_mul (cm_sm z1 s3))) (ev_var rfl) o_minus) ?_
      dsimp only [List.set]
      walk_at "w"
      refine w_asg (x := .d (.int ((cy + (j : Int)) * m - y))) (s1 := st ++ [(bls n1 n2 n3 n4).take (2 * i + j)]) (ev_op (ev_op (ev_op (ev_op (ev_var rfl) ev_int (o_ixT rfl)) (ev_var rfl) o_add) (ev_var rfl) (o_mul (cm_sm z2 s3))) (ev_var rfl) o_minus) ?_
      dsimp only [List.set]
      refine w_app (l := st.length) (s1 := st ++ [(bls n1 n2 n3 n4).take (2 * i + j)]) (ds := (bls n1 n2 n3 n4).take (2 * i + j)) (d := .bool n) (ev_var rfl) ?_ (gt _) ?_ ?_ ⟨_, gt _⟩
      · refine eva_cons (Ev.is (ev_op (ev_op (ev_op (ev_var rfl) (ev_var rfl) (o_mul (cm_sm z5 z5))) (ev_op (ev_var rfl) (ev_var rfl) (o_mul (cm_sm z6 z6))) o_add) (ev_op (ev_var rfl) (ev_var rfl) (o_mul (cm_sm sr sr))) o_le) (by rw [hn])) eva_nil
      · rw [List.length_take]
        exact Nat.lt_of_le_of_lt (Nat.min_le_right _ _) (Nat.le_of_ble_eq_true rfl)
      · rw [app, tk]
        exact hN2 _ _ ⟨rfl, .same (.same (.same (.same (.same (.same (.same (.same (.same (.none (.none (.none (.none (.none .nil)))))))))))))⟩
    · rintro ρ s2 ⟨rfl, hq2⟩
      exact hN _ _ ⟨rfl, Lq.trans (.same (.same (.same (.same (.same (.same (.same (.same (.none (.none (.none (.none (.none (.none .nil)))))))))))))) hq2⟩
  · rintro ρ s2 ⟨rfl, hq⟩
    refine w_wk hq ?_
    refine w_freeze (n := 7) rfl ?_ (by rw [So.len]; exact Nat.le_refl _) ?_
    · dsimp only [List.set]
      exact w_ret (x := .d (.bool ([n1, n2, n3, n4].any id && !([n1, n2, n3, n4].all id)))) (s1 := st) (ev_andV (ev_cb (eva_cons (ev_var (x := .d (.list ([n1, n2, n3, n4].map PyData.bool))) rfl) eva_nil) o_any) (fun _ => ev_notV (ev_cb (eva_cons (ev_var (x := .d (.list ([n1, n2, n3, n4].map PyData.bool))) rfl) eva_nil) o_all)) (fun _ => rfl)) q'
    · exact trivial
theorem ok_marked (Z : Zx mg) (c__law_round : Cb P w K mg base "_law_round" 1 [] (spF K R_round)) (c__law_ends : Cb P w K mg base "_law_ends" 1 [] (spF K R_none)) (G : Fun K "_law_marked" "_law_marked" s__law_marked f fd) : FnOk P w K mg base CX0 2 f fd ["_law_mark", "_law_spot"] (spF K R_marked) := by
  refine G.ok sc__law_marked (spF_len fun xs s x s' h => by cases h <;> rfl) (fun cdv A outer s H vs Q E hr ⟨M, xs, st, x, st', h, So, rx, qq⟩ => ?_)
  refine ⟨_, (pss_cons (ps_if (pt_cmpR (opk_eq (K := K) hr.units) (pe_ix (ixk (K := K)) (pv 0) (pe_int) (fun _ _ => rfl)) (pe_str) (nomark _)) (pss_one (ps_ret (pe_cmpR (opk_eq (K := K) hr.units) (pv 1) (pe_tup (pa_cons (pe_op op_fdivA (pe_ix (ixk (K := K)) (pe_ix (ixk (K := K)) (pe_ix (ixk (K := K)) (pv 0) (pe_int) (fun _ _ => rfl)) (pe_int) (fun _ _ => rfl)) (pe_int) (fun _ _ => rfl)) (pe_ix (ixk (K := K)) (pe_ix (ixk (K := K)) (pe_ix (ixk (K := K)) (pv 0) (pe_int) (fun _ _ => rfl)) (pe_int) (fun _ _ => rfl)) (pe_int) (fun _ _ => rfl))) (pa_cons (pe_op op_fdivA (pe_ix (ixk (K := K)) (pe_ix (ixk (K := K)) (pe_ix (ixk (K := K)) (pv 0) (pe_int) (fun _ _ => rfl)) (pe_int) (fun _ _ => rfl)) (pe_int) (fun _ _ => rfl)) (pe_ix (ixk (K := K)) (pe_ix (ixk (K := K)) (pe_ix (ixk (K := K)) (pv 0) (pe_int) (fun _ _ => rfl)) (pe_int) (fun _ _ => rfl)) (pe_int) (fun _ _ => rfl))) pa_nil))) (nomark _)))) pss_nil)
      (pss_one (ps_ret (pe_ifExp (pt_cmpR (opk_eq (K := K) hr.units) (pe_ix (ixk (K := K)) (pv 0) (pe_int) (fun _ _ => rfl)) (pe_str) (nomark _)) (pe_cmpR (opb_in (K := K)) (pv 1) (pe_cb c__law_ends (hr.mono (by decide)) (by rfl) (pa_cons (pe_ix (ixk (K := K)) (pv 0) (pe_int) (fun _ _ => rfl)) (pa_cons (pe_ix (ixk (K := K)) (pv 0) (pe_int) (fun _ _ => rfl)) pa_nil))) (by rfl)) (pe_cb c__law_round (hr.mono (by decide)) (by rfl) (pa_cons (pe_ix (ixk (K := K)) (pv 0) (pe_int) (fun _ _ => rfl)) (pa_cons (pe_ix (ixk (K := K)) (pv 0) (pe_int) (fun _ _ => rfl)) (pa_cons (pv 1) pa_nil)))))))), ?_⟩
  cases h with
  | @hoop a b c p q t cx cy _ ha hb hc hx hy =>
    refine w_run So rx ?_
    try simp only [nox_K, cx_K, List.map_cons, List.map_nil]
    have q' := okr_0 qq So.len
    have RR : R_round [.d (.tuple [q2 a p, q2 b q]), .d (q2 c t), .d (q2 cx cy)] st _ st := .mk ha hb hc hx hy
    rw [rd_hp ha.p0 hb.p0 hc.p0] at RR
    walk_at "w"
    refine w_if (b := false) (s1 := st) (EvT.is (et_test (ev_op (ev_op (ev_var rfl) ev_int (o_ixT rfl)) ev_str (o_eq sh_hoop sh_peg))) eq_hp) (fun c => by cases c) ?_
    intro _
    refine w_ret (s1 := st) (ev_if (b := false) (EvT.is (et_test (ev_op (ev_op (ev_var rfl) ev_int (o_ixT rfl)) ev_str (o_eq sh_hoop sh_string))) eq_hs) (fun c => by cases c) (fun _ => ?_)) q'
    exact ev_call (eva_cons (ev_op (ev_var rfl) ev_int (o_ixT rfl)) (eva_cons (ev_op (ev_var rfl) ev_int (o_ixT rfl)) (eva_cons (ev_var rfl) eva_nil))) RR
  | @peg a b p q cx cy _ ha hb =>
    refine w_run So rx ?_
    try simp only [nox_K, cx_K, List.map_cons, List.map_nil]
    have q' := okr_0 qq So.len
    have p0 := ha.p0; have q0 := hb.p0
    have f1 : CF a (p : Int) := cf_sm (by omega) (smn 1000 ha.p1)
    have f2 : CF b (q : Int) := cf_sm (by omega) (smn 1000 hb.p1)
    walk_at "w"
    refine w_if (b := true) (s1 := st) (EvT.is (et_test (ev_op (ev_op (ev_var rfl) ev_int (o_ixT rfl)) ev_str (o_eq sh_peg sh_peg))) eq_pp) ?_ (fun c => by cases c)
    intro _
    refine w_ret (s1 := st) (Ev.is (ev_op (ev_var rfl) (ev_tupU (xs := [.d (.int (a.fdiv p)), .d (.int (b.fdiv q))]) (eva_cons (ev_op (ev_op (ev_op (ev_op (ev_var rfl) ev_int (o_ixT rfl)) ev_int (o_ixT rfl)) ev_int (o_ixT rfl)) (ev_op (ev_op (ev_op (ev_var rfl) ev_int (o_ixT rfl)) ev_int (o_ixT rfl)) ev_int (o_ixT rfl)) (o_fdiv f1)) (eva_cons (ev_op (ev_op (ev_op (ev_op (ev_var rfl) ev_int (o_ixT rfl)) ev_int (o_ixT rfl)) ev_int (o_ixT rfl)) (ev_op (ev_op (ev_op (ev_var rfl) ev_int (o_ixT rfl)) ev_int (o_ixT rfl)) ev_int (o_ixT rfl)) (o_fdiv f2)) eva_nil)) (.cons (.cons .nil)) (Nat.le_of_ble_eq_true rfl)) (o_eq sh2 sh2)) ?_) q'
    rw [eqv_q2]
    exact congrArg (fun z => Dx.d (.bool z)) (decide_eq_decide.mpr ⟨fun h => h.symm, fun h => h.symm⟩)
end
end K47
namespace Km
open PySem L2 Pw
theorem log_sm {n : Nat} {i : Int} (h : Sm n i) (hn : 0 < n) : i.natAbs.log2 < n := PySem.Flt.log2_lt_of hn h.lt
theorem shown_int {i : Int} (h : Sm 1000 i) : (PyData.shown (.int i)).length ≤ 1001 := by
  have e := int_text_length_le (k := 1000) (by decide) (log_sm h (by decide))
  show (Str.ofString (toString i)).length ≤ 1001
  rw [ofString_length]
  omega
/-- a thing within a thing -/
structure Lf (x : PyData) : Prop where
  sh : PyData.showable x = true
  nd : PyData.hasDict x = false
  dp : x.depth ≤ 1
  ls : x.leavesShort 1002 = true
  wt : x.weight ≤ 1000
  ly : x.canLay0 = true
  sm : ∀ a, x = .int a → Sm 1000 a
theorem lf_int {i : Int} (h : Sm 1000 i) : Lf (.int i) := by
  have hl := log_sm h (by decide)
  refine ⟨decide_eq_true (by omega), rfl, Nat.le_of_ble_eq_true rfl, ?_, ?_, rfl, fun a e => by cases e; exact h⟩
  · show decide ((PyData.shown (.int i)).length ≤ 1002) = true
    exact decide_eq_true (Nat.le_trans (shown_int h) (by decide))
  · show (if i == 0 then 0 else i.natAbs.log2 + 1) ≤ 1000
    split <;> omega
theorem lf_bool {b : Bool} : Lf (.bool b) := ⟨rfl, rfl, Nat.le_of_ble_eq_true rfl, rfl, Nat.le_of_ble_eq_true rfl, rfl, fun a e => by cases e⟩
theorem lf_none : Lf .none := ⟨rfl, rfl, Nat.le_of_ble_eq_true rfl, rfl, Nat.le_of_ble_eq_true rfl, rfl, fun a e => by cases e⟩
theorem lf_s1 : Lf (.str "1") := ⟨rfl, rfl, Nat.le_of_ble_eq_true rfl, by decide +kernel, by decide +kernel, by decide +kernel, fun a e => by cases e⟩
theorem lf_t1 : Lf (.tuple [.int 1]) := ⟨by decide +kernel, by decide +kernel, by decide +kernel, by decide +kernel, by decide +kernel, by decide +kernel, fun a e => by cases e⟩
theorem lf_l1 : Lf (.list [.int 1]) := ⟨by decide +kernel, by decide +kernel, by decide +kernel, by decide +kernel, by decide +kernel, by decide +kernel, fun a e => by cases e⟩
/-- a thing -/
structure Th (d : PyData) : Prop where
  sh : PyData.showable d = true
  nd : PyData.hasDict d = false
  dp : d.depth ≤ 60
  ln : d.shown.length ≤ 16000000
  sm : ∀ a b, d = .tuple [.int a, .int b] → Sm 4000 a ∧ Sm 4000 b
theorem th_mk {d : PyData} (sh : PyData.showable d = true) (nd : PyData.hasDict d = false) (dp : d.depth ≤ 60) (ls : d.leavesShort 1002 = true) (wt : d.weight ≤ 10000) (sm : ∀ a b, d = .tuple [.int a, .int b] → Sm 4000 a ∧ Sm 4000 b) : Th d :=
  ⟨sh, nd, dp, by
    have h := PyData.shown_le 1002 (by decide) d ls
    have h2 : (1002 + 2) * d.weight ≤ 1004 * 10000 := Nat.mul_le_mul (by decide) wt
    omega, sm⟩
theorem th_lf {x : PyData} (h : Lf x) (hn : ∀ ds, x ≠ .tuple ds) : Th x := th_mk h.sh h.nd (Nat.le_trans h.dp (by decide)) h.ls (Nat.le_trans h.wt (by decide)) fun a b e => absurd e (hn _)
theorem th_all {ds : List PyData} (h : ∀ x ∈ ds, Lf x) (hl : ds.length ≤ 5) : PyData.showableAll ds = true ∧ PyData.hasDictAll ds = false ∧ PyData.depthAll ds ≤ 1 ∧ PyData.leavesShortAll 1002 ds = true ∧ PyData.weightAll ds ≤ 1001 * ds.length := by
  induction ds with
  | nil => exact ⟨rfl, rfl, Nat.le_of_ble_eq_true rfl, rfl, Nat.le_of_ble_eq_true rfl⟩
  | cons x ds ih =>
    obtain ⟨h1, h2, h3, h4, h5⟩ := ih (fun y hy => h y (List.mem_cons_of_mem _ hy)) (by simp at hl; omega)
    have hx := h x (List.mem_cons_self ..)
    refine ⟨?_, ?_, ?_, ?_, ?_⟩
    · simp only [PyData.showableAll, hx.sh, h1, Bool.and_self]
    · simp only [PyData.hasDictAll, hx.nd, h2, Bool.or_self]
    · simp only [PyData.depthAll]
      exact Nat.max_le.mpr ⟨hx.dp, h3⟩
    · simp only [PyData.leavesShortAll, hx.ls, h4, Bool.and_self]
    · have := hx.wt
      simp only [PyData.weightAll, List.length_cons]
      omega
theorem th_tup {ds : List PyData} (h : ∀ x ∈ ds, Lf x) (hl : ds.length ≤ 5) : Th (.tuple ds) := by
  obtain ⟨h1, h2, h3, h4, h5⟩ := th_all h hl
  refine th_mk (by simp only [PyData.showable, h1]) (by simp only [PyData.hasDict, h2]) (by simp only [PyData.depth]; omega) (by simp only [PyData.leavesShort, h4]) (by simp only [PyData.weight]; omega) fun a b e => ?_
  cases e
  exact ⟨((h (.int a) (by simp)).sm a rfl).mono, ((h (.int b) (by simp)).sm b rfl).mono⟩
theorem th_lst {ds : List PyData} (h : ∀ x ∈ ds, Lf x) (hl : ds.length ≤ 5) : Th (.list ds) := by
  obtain ⟨h1, h2, h3, h4, h5⟩ := th_all h hl
  exact th_mk (by simp only [PyData.showable, h1]) (by simp only [PyData.hasDict, h2]) (by simp only [PyData.depth]; omega) (by simp only [PyData.leavesShort, h4]) (by simp only [PyData.weight]; omega) fun a b e => by cases e
theorem th_s : Th (.str "1/2") := th_mk rfl rfl (Nat.le_of_ble_eq_true rfl) (by decide +kernel) (by decide +kernel) fun a b e => by cases e
end Km
namespace Km
open PySem L2 Pw
theorem lw_one {u : Int} : lwN u 1 = u ∧ lwD u 1 = 1 := (lw_self (u := u) (v := 1) (by decide)).mpr (by
  show Nat.gcd u.natAbs 1 = 1
  exact Nat.gcd_one_right _)
/-- what comes of a draw from a list of so many -/
theorem pick {ds : List PyData} {b : Bx} (h : 0 < ds.length) : ∃ d, ds[(tkR b (ds.length : Nat)).toNat]? = some d ∧ d ∈ ds := by
  have hr := tk_r (b := b) (n := (ds.length : Nat)) (by omega)
  have hl : (tkR b (ds.length : Nat)).toNat < ds.length := by omega
  exact ⟨_, List.getElem?_eq_getElem hl, List.getElem_mem hl⟩
end Km
namespace K47
open PySem L2 Pw Km
structure Fq (a : Int) (p : Nat) : Prop where
  s : Sm 20 a
  p0 : 0 < p
  p1 : p ≤ 1000
theorem Fq.fr {a : Int} {p : Nat} (h : Fq a p) : Fr a p := ⟨h.s.mono, h.p0, h.p1⟩
theorem draw_fr {b : Bx} {n : Int} (h0 : 0 ≤ n) (h1 : n ≤ 1000) : ∃ (a : Int) (p : Nat), lw (drN b n) (drD b n) = q2 a p ∧ Fq a p := by
  have n1 := drN_le (b := b) (n := n) h0
  have n2 := drD_le (b := b) (n := n)
  have k : drD b n ≠ 0 := by omega
  have d0 := lwD_pos (u := drN b n) k
  have d1 := lwD_le (u := drN b n) k
  have a1 := lwN_le (u := drN b n) k
  obtain ⟨p, hp⟩ := Int.eq_ofNat_of_zero_le (show 0 ≤ lwD (drN b n) (drD b n) by omega)
  refine ⟨_, p, by show PyData.tuple [.int (lwN (drN b n) (drD b n)), .int (lwD (drN b n) (drD b n))] = _; rw [hp], .of 1000 (by omega), by omega, by omega⟩
theorem fq_c {a : Int} {p : Nat} (h : a.natAbs ≤ 100 := by decide) (h0 : 0 < p := by decide) (h1 : p ≤ 100 := by decide) : Fq a p := ⟨.of 100 h, h0, by omega⟩
abbrev rb (ns : List Int) (k : Nat) : En := [some (.scr ns), some (.d (.int (k : Int))), some (.loc 0), none, none, none, none, none, none, none, none, none, none]
abbrev rs (ns : List Int) (k : Nat) (i : Int) (x y z : PyData) : En := [some (.scr ns), some (.d (.int (k : Int))), some (.loc 0), some (.d (.int i)), some (.d x), some (.d y), some (.d z), none, none, none, none, none, none]
theorem two_d {d1 d2 e1 e2 d e : PyData} {P : PyData → PyData → Prop} {i : Nat} (h1 : [d1, d2][i]? = some d) (h2 : [e1, e2][i]? = some e) (p1 : P d1 e1) (p2 : P d2 e2) : P d e := by
  match i, h1, h2 with
  | 0, h1, h2 => cases h1; cases h2; exact p1
  | 1, h1, h2 => cases h1; cases h2; exact p2
  | i + 2, h1, h2 => cases h1
section
local macro_rules | `(tactic| walk_at "sd") => `(tactic| first | rfl | assumption | exact Nat.le_of_ble_eq_true rfl | decide | omega | (walk_at "sd2"))
local macro_rules | `(tactic| walk_at "sd2") => `(tactic| first | exact cm_sm (by assumption) (by assumption) | exact cf_sm (by assumption) (by assumption) | ((with_reducible apply gs); (walk_at "sd")) | exact cm_fm7 | exact cm_if | exact cm_l (by omega) (by omega) | exact cm_r (by omega) (by omega) | exact cf_c (by omega) (by omega))
local macro_rules | `(tactic| walk_at "isi") => `(tactic| with_reducible first | exact kit_int | exact kit_bool | exact kit_tuple | exact kit_list | exact kit_str)
local macro_rules | `(tactic| walk_at "und") => `(tactic| with_reducible repeat (first | exact Und.nil | apply Und.cons))
local macro_rules | `(tactic| walk_at "op") => `(tactic| (first
  | with_reducible exact o_add | with_reducible exact o_minus | with_reducible exact o_lt | with_reducible exact o_gt | with_reducible exact o_le | with_reducible exact o_ge | with_reducible exact o_neg
  | with_reducible exact o_isN | with_reducible exact o_isntN | with_reducible exact o_isB | with_reducible exact o_isntB | with_reducible exact o_neS | with_reducible exact o_eqS
  | with_reducible exact o_abs | with_reducible exact o_intB | with_reducible exact o_min2 | with_reducible exact o_max2 | with_reducible exact o_lenL | with_reducible exact o_lenT | with_reducible exact o_lenC | with_reducible exact o_gcd
  | with_reducible apply o_ixT | with_reducible apply o_ixL | with_reducible apply o_ixM | with_reducible apply o_ixS | with_reducible apply o_lenM
  | with_reducible apply o_mul | with_reducible apply o_fdiv | with_reducible apply o_mod | with_reducible apply o_pow | with_reducible apply o_eq | with_reducible apply o_ne | with_reducible apply o_catT | with_reducible apply o_repr | with_reducible apply o_all) <;> walk_at "sd")
local macro_rules | `(tactic| walk_at "opn") => `(tactic| (first
  | with_reducible apply o_cat | with_reducible apply o_repI | with_reducible exact o_listT | with_reducible exact o_listL) <;> walk_at "sd")
local macro_rules | `(tactic| walk_at "ea") => `(tactic| first
  | with_reducible exact eva_nil
  | ((with_reducible apply eva_cons); (walk_at "ev"); (walk_at "ea")))
local macro_rules | `(tactic| walk_at "call") => `(tactic| fail)
local macro_rules | `(tactic| walk_at "evn") => `(tactic| first
  | ((with_reducible apply evn_lstU); (walk_at "ea"); (walk_at "und"); (walk_at "sd"))
  | ((with_reducible apply evn_op); (walk_at "ev"); (walk_at "ev"); (walk_at "opn"))
  | ((with_reducible apply evn_cb); (walk_at "ea"); (walk_at "opn"))
  | ((with_reducible apply evn_call); (walk_at "ea"); (walk_at "call")))
local macro_rules | `(tactic| walk_at "ev") => `(tactic| first
  | with_reducible exact ev_int | with_reducible exact ev_bl | with_reducible exact ev_non | with_reducible exact ev_str
  | ((with_reducible apply ev_var); rfl)
  | ((with_reducible apply ev_op); (walk_at "ev"); (walk_at "ev"); (walk_at "op"))
  | ((with_reducible apply ev_un); (walk_at "ev"); (walk_at "op"))
  | ((with_reducible apply ev_call); (walk_at "ea"); (walk_at "call"))
  | ((with_reducible apply ev_callD); (walk_at "ea"); (intro _ _; exact rxs_1); (walk_at "call"))
  | ((with_reducible apply ev_callK); (walk_at "ea"); rfl; (intro _ _ _ hh; first | exact rxs_swap2 hh | exact rxs_same1 hh); (walk_at "call"))
  | ((with_reducible apply ev_isi); (walk_at "ev"); (walk_at "isi"))
  | ((with_reducible apply ev_isi2); (walk_at "ev"); (walk_at "isi"); (walk_at "isi"))
  | ((with_reducible apply ev_cb); (walk_at "ea"); (walk_at "op"))
  | ((with_reducible apply ev_tupU); (walk_at "ea"); (walk_at "und"); (walk_at "sd"))
  | ((with_reducible apply ev_new); (walk_at "evn"))
  | ((with_reducible apply ev_slT); (walk_at "ev"); (walk_at "eo"); (walk_at "eo"))
  | ((with_reducible apply ev_andV); (walk_at "ev"); (intro _; walk_at "ev"); (intro _; rfl))
  | ((with_reducible apply ev_orV); (walk_at "ev"); (intro _; walk_at "ev"); (intro _; rfl))
  | ((with_reducible apply ev_notV); (walk_at "ev")))
local macro_rules | `(tactic| walk_at "eo") => `(tactic| first
  | with_reducible exact eo_none
  | ((with_reducible apply eo_some); (walk_at "ev")))
local macro_rules | `(tactic| walk_at "et") => `(tactic| first
  | ((with_reducible apply et_test); (walk_at "ev"))
  | ((with_reducible apply et_B); (walk_at "ev"))
  | ((with_reducible apply et_not); (walk_at "et"))
  | ((with_reducible apply et_and); (walk_at "et"); (intro _; walk_at "et"); (intro _; rfl))
  | ((with_reducible apply et_or); (walk_at "et"); (intro _; walk_at "et"); (intro _; rfl)))
local macro_rules | `(tactic| walk_at "w") => `(tactic| first
  | (with_reducible apply w_seq)
  | (with_reducible apply w_next)
  | ((with_reducible apply w_asg); (walk_at "ev"))
  | ((with_reducible apply w_ret); (walk_at "ev"))
  | ((with_reducible apply w_drop); (walk_at "ev"))
  | ((with_reducible apply w_par); (walk_at "ea"))
  | ((with_reducible apply w_tup2); (walk_at "ev"))
  | ((with_reducible apply w_tup3); (walk_at "ev"))
  | ((with_reducible apply w_setI); (walk_at "ev"); (walk_at "ev"); (walk_at "ev"); (walk_at "sd"); (walk_at "sd"))
  | ((with_reducible apply w_if); (walk_at "et")))

local macro_rules | `(tactic| walk_at "call") => `(tactic| assumption)
variable {P : Program} {w : World} {K : Pw.Fg} {mg : Str → Option Value} {base : Heap} {f : Addr} {fd : FuncData} {cdv : Value} {s : Shared} {H : Hp} {a : Addr} {ns : List Int}
theorem w_law (Z : Zx mg) (hl : ns.length ≤ 63) (hr : Room 8 (PySem.callerA.deeper (PyProof.Rows.envOfC "law" (defScope s_law) s.heap.objs.size f cdv)))
    (c__law_box : Cb P w K mg base "_law_box" 2 [] (spN K R_box)) (c__law_take : Cb P w K mg base "_law_take" 1 [] (spF K R_take)) (c__law_of : Cb P w K mg base "_law_of" 2 [] (spF K R_of)) (c__law_draw : Cb P w K mg base "_law_draw" 3 [] (spF K R_draw))
    (c__law_marked : Cb P w K mg base "_law_marked" 2 [] (spF K R_marked)) (c__law_same : Cb P w K mg base "_law_same" 7 [] (spF K (R_same 7))) (c_marks : Cb P w K mg base "marks" 3 [] (spF K R_marks)) (k_marks : Ck P w K mg base "marks" 3 ["cell", "stroke"] swap2 (spF K R_marks))
    (hS : SqL K H a (ns.map V.int)) :
    ∃ t, PSs (cxOf CX0 P w K mg base N_law "law" (defScope s_law) f cdv PySem.callerA [] s H E0).nox (defBody s_law) t ∧ t { nx := fun _ _ => False, rt := fun v _ => v = .bl true } (L2.start N_law [.ref a]) H := by
  refine ⟨_, (pss_cons (ps_for PassesOwn.never rfl (pi_range1 (by rfl) Z.z_range (pa_cons (pe_callB (cb_max2 rfl) (by rfl) Z.z_max bt_max (pa_cons (pe_int) (pa_cons (pe_callB (cb_min2 rfl) (by rfl) Z.z_min bt_min (pa_cons (pe_callB (cbk_len (K := K)) (by rfl) Z.z_len bt_len (pa_cons (pv 0) pa_nil)) (pa_cons (pe_int) pa_nil))) pa_nil))) pa_nil)) (pg_name (i := 1) sc_law.nd rfl (Or.inl rfl)) (pss_cons (ps_set (i := 2) sc_law.nd rfl (.inl rfl) (pe_cb c__law_box (hr.mono (by decide)) (by rfl) (pa_cons (pv 0) (pa_cons (pv 1) pa_nil))))
      (pss_one (ps_for PassesOwn.never rfl (pi_range1 (by rfl) Z.z_range (pa_cons (pe_int) pa_nil)) (pg_name (i := 3) sc_law.nd rfl (Or.inl rfl)) (pss_cons (ps_set (i := 4) sc_law.nd rfl (.inl rfl) (pe_tup (pa_cons (pe_cb c__law_draw (hr.mono (by decide)) (by rfl) (pa_cons (pv 2) (pa_cons (pe_int) pa_nil))) (pa_cons (pe_cb c__law_draw (hr.mono (by decide)) (by rfl) (pa_cons (pv 2) (pa_cons (pe_int) pa_nil))) pa_nil))))
      (pss_cons (ps_set (i := 5) sc_law.nd rfl (.inl rfl) (pe_cb c__law_of (hr.mono (by decide)) (by rfl) (pa_cons (pv 2) (pa_cons (pe_lst (pa_cons (pe_cb c__law_draw (hr.mono (by decide)) (by rfl) (pa_cons (pv 2) (pa_cons (pe_int) pa_nil))) (pa_cons (pe_cb c__law_draw (hr.mono (by decide)) (by rfl) (pa_cons (pv 2) (pa_cons (pe_int) pa_nil))) (pa_cons (pe_tup (pa_cons (pe_int) (pa_cons (pe_int) pa_nil))) (pa_cons (pe_tup (pa_cons (pe_int) (pa_cons (pe_int) pa_nil))) (pa_cons (pe_tup (pa_cons (pe_int) (pa_cons (pe_int) pa_nil))) pa_nil)))))) pa_nil))))
      (pss_cons (ps_if (pt_cmpR (opk_eq (K := K) hr.units) (pe_cb c__law_take (hr.mono (by decide)) (by rfl) (pa_cons (pv 2) (pa_cons (pe_int) pa_nil))) (pe_int) (nomark _)) (pss_one (ps_par (i := 4) (j := 5) (by rfl) sc_law.nd rfl rfl (by decide) rfl rfl (pa_cons (pe_tup (pa_cons (pe_tup (pa_cons (pe_int) (pa_cons (pe_int) pa_nil))) (pa_cons (pe_tup (pa_cons (pe_un un_negA (pe_int)) (pa_cons (pe_int) pa_nil))) pa_nil))) (pa_cons (pe_cb c__law_of (hr.mono (by decide)) (by rfl) (pa_cons (pv 2) (pa_cons (pe_lst (pa_cons (pe_tup (pa_cons (pe_int) (pa_cons (pe_int) pa_nil))) (pa_cons (pe_tup (pa_cons (pe_un un_negA (pe_int)) (pa_cons (pe_int) pa_nil))) (pa_cons (pe_tup (pa_cons (pe_int) (pa_cons (pe_int) pa_nil))) (pa_cons (pe_tup (pa_cons (pe_int) (pa_cons (pe_int) pa_nil))) pa_nil))))) pa_nil))) pa_nil)) (by rfl))) pss_nil)
      (pss_cons (ps_set (i := 6) sc_law.nd rfl (.inl rfl) (pe_lst (pa_cons (pe_tup (pa_cons (pe_str) (pa_cons (pe_str) (pa_cons (pe_str) (pa_cons (pv 4) (pa_cons (pv 5) pa_nil)))))) (pa_cons (pe_tup (pa_cons (pe_str) (pa_cons (pe_str) (pa_cons (pe_str) (pa_cons (pv 4) pa_nil))))) pa_nil))))
      (pss_one (ps_for PassesOwn.never rfl (pi_range1 (by rfl) Z.z_range (pa_cons (pe_int) pa_nil)) (pg_name (i := 7) sc_law.nd rfl (Or.inl rfl)) (pss_cons (ps_par (i := 8) (j := 9) (by rfl) sc_law.nd rfl rfl (by decide) rfl rfl (pa_cons (pe_op op_fdivA (pe_ix (ixk (K := K)) (pe_ix (ixk (K := K)) (pv 4) (pe_int) (fun _ _ => rfl)) (pe_int) (fun _ _ => rfl)) (pe_ix (ixk (K := K)) (pe_ix (ixk (K := K)) (pv 4) (pe_int) (fun _ _ => rfl)) (pe_int) (fun _ _ => rfl))) (pa_cons (pe_op op_fdivA (pe_ix (ixk (K := K)) (pe_ix (ixk (K := K)) (pv 4) (pe_int) (fun _ _ => rfl)) (pe_int) (fun _ _ => rfl)) (pe_ix (ixk (K := K)) (pe_ix (ixk (K := K)) (pv 4) (pe_int) (fun _ _ => rfl)) (pe_int) (fun _ _ => rfl))) pa_nil)) (by rfl))
      (pss_cons (ps_set (i := 10) sc_law.nd rfl (.inr rfl) (pe_tup (pa_cons (pe_op op_minus (pe_op (opk_plus (K := K)) (pv 8) (pe_cb c__law_take (hr.mono (by decide)) (by rfl) (pa_cons (pv 2) (pa_cons (pe_int) pa_nil)))) (pe_int)) (pa_cons (pe_op op_minus (pe_op (opk_plus (K := K)) (pv 9) (pe_cb c__law_take (hr.mono (by decide)) (by rfl) (pa_cons (pv 2) (pa_cons (pe_int) pa_nil)))) (pe_int)) pa_nil))))
      (pss_cons (ps_set (i := 10) sc_law.nd rfl (.inr rfl) (pe_cb c__law_of (hr.mono (by decide)) (by rfl) (pa_cons (pv 2) (pa_cons (pe_lst (pa_cons (pv 10) (pa_cons (pv 10) (pa_cons (pe_tup (pa_cons (pv 8) (pa_cons (pv 9) pa_nil))) (pa_cons (pe_tup (pa_cons (pe_op op_minus (pv 8) (pe_int)) (pa_cons (pv 9) pa_nil))) (pa_cons (pe_tup (pa_cons (pv 8) (pa_cons (pe_op op_minus (pv 9) (pe_int)) pa_nil))) (pa_cons (pe_tup (pa_cons (pe_op (opk_plus (K := K)) (pv 8) (pe_int)) (pa_cons (pv 9) pa_nil))) (pa_cons (pe_tup (pa_cons (pe_op (opk_plus (K := K)) (pv 8) (pe_int)) (pa_cons (pe_op (opk_plus (K := K)) (pv 9) (pe_int)) pa_nil))) pa_nil)))))))) pa_nil))))
      (pss_cons (ps_setLc (i := 11) rfl sc_law.nd rfl rfl (sw_true rfl rfl rfl (by decide +kernel)) (own := [("_law_mark", 12)]) (pik_list (K := K) (pv 6)) (blkOk_by (own := [("_law_mark", 12)]) (N := N_law) (sc := defScope s_law) (by decide +kernel)) (fun _ _ _ _ _ => (pg_name (i := 12) sc_law.nd rfl (Or.inl rfl))) (fun _ _ _ _ _ => pts_nil) (fun _ _ _ _ _ => pe_cb c__law_marked (hr.mono (by decide)) (by rfl) (pa_cons (pv 12) (pa_cons (pv 10) pa_nil))))
      (pss_cons (ps_if (pt_not (pt_val (pe_cb c__law_same (hr.mono (by omega)) (by rfl) (pa_cons (pe_lc (own := [("_law_mark", 12)]) rfl sc_law.nd (pik_list (K := K) (pv 6)) (blkOk_by (own := [("_law_mark", 12)]) (N := N_law) (sc := defScope s_law) (by decide +kernel)) (fun _ _ _ _ _ => (pg_name (i := 12) sc_law.nd rfl (Or.inl rfl))) (fun _ _ _ _ _ => pts_nil) (fun _ _ _ _ _ => pe_cb c_marks (hr.mono (by decide)) (by rfl) (pa_cons (pv 12) (pa_cons (pv 10) pa_nil)))) (pa_cons (pv 11) pa_nil))))) (pss_one (ps_ret (pe_bl))) pss_nil)
      (pss_one (ps_if (pt_not (pt_val (pe_cb c__law_same (hr.mono (by omega)) (by rfl) (pa_cons (pe_ck k_marks (hr.mono (by decide)) (by rfl) (pk_cons (pv 10) (pk_cons (pe_ix (ixk (K := K)) (pv 6) (pe_op op_modA (pv 7) (pe_int)) (fun _ _ => rfl)) pk_nil))) (pa_cons (pe_ix (ixk (K := K)) (pv 11) (pe_op op_modA (pv 7) (pe_int)) (fun _ _ => rfl)) pa_nil))))) (pss_one (ps_ret (pe_bl))) pss_nil)))))))))))))))))
      (pss_one (ps_ret (pe_bl)))), ?_⟩
  refine w_run so_nil (rxs_scr hS) ?_
  try simp only [nox_K, cx_K, List.map_cons, List.map_nil]
  walk_at "w"
  dsimp only
  refine w_forR (c := max 2 (min ns.length 3)) (s1 := []) (ρ := rho0 N_law [.scr ns]) ?_ (by omega) (fun _ ρ s => s = [] ∧ ρ = rho0 N_law [.scr ns]) ⟨rfl, rfl⟩ ?_ ?_
  · with_reducible apply eva_cons
    · refine Ev.is (by walk_at "ev") ?_
      refine congrArg (fun i => Dx.d (.int i)) ?_
      split <;> split at * <;> omega
    · exact eva_nil
  · rintro k ρ s2 N hk ⟨rfl, rfl⟩ hN
    walk_at "w"
    refine w_asgN (s1 := []) (ds := bxl (mkB (cell ns k) k)) ?_ ?_
    · with_reducible apply evn_call
      · walk_at "ea"
      · exact .mk (by omega)
    have hB : Bk 0 (mkB (cell ns k) k) := bk_mk
    generalize mkB (cell ns k) k = b0 at *
    dsimp only
    refine w_forR (c := 8) (s1 := [bxl b0]) ?_ (by decide) (fun i ρ s => ∃ b, Bk (200 * i) b ∧ s = [bxl b] ∧ Lq (rb ns k) ρ) ?_ ?_ ?_
    · exact eva_cons ev_int eva_nil
    · exact ⟨b0, hB, rfl, Lq.refl _⟩
    · rintro i ρ s2 N2 hi ⟨b, hc, rfl, hq⟩ hN2
      have hcc : 200 * i ≤ 1600 := by omega
      generalize hcg : 200 * i = e at hc hcc
      refine w_wk (hq.set 3 (some (.d (.int (i : Int))))) ?_
      dsimp only [List.set]
      have D1 : R_draw [.loc 0, .d (.int 3)] [bxl b] (.d (lw (drN b 3) (drD b 3))) [bxl (drB b 3)] := R_draw.mk (l := 0) (c := e) rfl (by decide) (by decide) hc (by omega)
      have k1 : Bk (e + 2) (drB b 3) := hc.draw
      obtain ⟨a1, p1, ea, F1⟩ := draw_fr (b := b) (n := 3) (by decide) (by decide)
      rw [ea] at D1
      generalize drB b 3 = b1 at *
      have D2 : R_draw [.loc 0, .d (.int 3)] [bxl b1] (.d (lw (drN b1 3) (drD b1 3))) [bxl (drB b1 3)] := R_draw.mk (l := 0) (c := e + 2) rfl (by decide) (by decide) k1 (by omega)
      have k2 : Bk (e + 4) (drB b1 3) := k1.draw
      obtain ⟨a2, p2, eb, F2⟩ := draw_fr (b := b1) (n := 3) (by decide) (by decide)
      rw [eb] at D2
      generalize drB b1 3 = b2 at *
      have D3 : R_draw [.loc 0, .d (.int 3)] [bxl b2] (.d (lw (drN b2 3) (drD b2 3))) [bxl (drB b2 3)] := R_draw.mk (l := 0) (c := e + 4) rfl (by decide) (by decide) k2 (by omega)
      have k3 : Bk (e + 6) (drB b2 3) := k2.draw
      obtain ⟨a3, p3, ec, F3⟩ := draw_fr (b := b2) (n := 3) (by decide) (by decide)
      rw [ec] at D3
      generalize drB b2 3 = b3 at *
      have D4 : R_draw [.loc 0, .d (.int 5)] [bxl b3] (.d (lw (drN b3 5) (drD b3 5))) [bxl (drB b3 5)] := R_draw.mk (l := 0) (c := e + 6) rfl (by decide) (by decide) k3 (by omega)
      have k4 : Bk (e + 8) (drB b3 5) := k3.draw
      obtain ⟨a4, p4, ed, F4⟩ := draw_fr (b := b3) (n := 5) (by decide) (by decide)
      rw [ed] at D4
      generalize drB b3 5 = b4 at *
      obtain ⟨dI, hI, mI⟩ := pick (ds := [q2 a3 p3, q2 a4 p4, q2 0 1, q2 5 1, q2 1 3]) (b := b4) (Nat.le_of_ble_eq_true rfl)
      obtain ⟨a5, p5, rfl, F5⟩ : ∃ (e1 : Int) (e2 : Nat), dI = q2 e1 e2 ∧ Fq e1 e2 := by
        simp only [List.mem_cons, List.not_mem_nil, or_false] at mI
        rcases mI with h | h | h | h | h
        · exact ⟨_, _, h, F3⟩
        · exact ⟨_, _, h, F4⟩
        · exact ⟨0, 1, h, fq_c⟩
        · exact ⟨5, 1, h, fq_c⟩
        · exact ⟨1, 3, h, fq_c⟩
      have O1 : R_of [.loc 0, .d (.list [q2 a3 p3, q2 a4 p4, q2 0 1, q2 5 1, q2 1 3])] [bxl b4] (.d (q2 a5 p5)) [bxl (tkB b4 (([q2 a3 p3, q2 a4 p4, q2 0 1, q2 5 1, q2 1 3].length : Nat) : Int))] := R_of.mk (l := 0) (c := e + 8) rfl (Nat.le_of_ble_eq_true rfl) (Nat.le_of_ble_eq_true rfl) k4 (by omega) hI
      have k5 : Bk (e + 9) _ := k4.next (n := (([q2 a3 p3, q2 a4 p4, q2 0 1, q2 5 1, q2 1 3].length : Nat) : Int))
      generalize tkB b4 (([q2 a3 p3, q2 a4 p4, q2 0 1, q2 5 1, q2 1 3].length : Nat) : Int) = b5 at *
      have T3 : R_take [.loc 0, .d (.int 3)] [bxl b5] (.d (.int (tkR b5 3))) [bxl (tkB b5 3)] := R_take.mk (l := 0) (c := e + 9) rfl (by decide) (by decide) k5 (by omega)
      have k6 : Bk (e + 10) (tkB b5 3) := k5.next
      generalize tkR b5 3 = m3 at *
      generalize tkB b5 3 = b6 at *
      walk_at "w"
      refine w_asg (x := .d (.tuple [q2 a1 p1, q2 a2 p2])) (s1 := [bxl b2]) (ev_tupU (xs := [.d (q2 a1 p1), .d (q2 a2 p2)]) (eva_cons (ev_call (eva_cons (ev_var rfl) (eva_cons ev_int eva_nil)) D1) (eva_cons (ev_call (eva_cons (ev_var rfl) (eva_cons ev_int eva_nil)) D2) eva_nil)) (.cons (.cons .nil)) (Nat.le_of_ble_eq_true rfl)) ?_
      dsimp only [List.set]
      walk_at "w"
      refine w_asg (x := .d (q2 a5 p5)) (s1 := [bxl b5]) (ev_call (eva_cons (ev_var rfl) (eva_cons (ev_new (evn_lstU (ds := [q2 a3 p3, q2 a4 p4, q2 0 1, q2 5 1, q2 1 3]) (xs := [.d (q2 a3 p3), .d (q2 a4 p4), .d (q2 0 1), .d (q2 5 1), .d (q2 1 3)]) (eva_cons (ev_call (eva_cons (ev_var rfl) (eva_cons ev_int eva_nil)) D3) (eva_cons (ev_call (eva_cons (ev_var rfl) (eva_cons ev_int eva_nil)) D4) (eva_cons (ev_tupU (eva_cons ev_int (eva_cons ev_int eva_nil)) (.cons (.cons .nil)) (Nat.le_of_ble_eq_true rfl)) (eva_cons (ev_tupU (eva_cons ev_int (eva_cons ev_int eva_nil)) (.cons (.cons .nil)) (Nat.le_of_ble_eq_true rfl)) (eva_cons (ev_tupU (eva_cons ev_int (eva_cons ev_int eva_nil)) (.cons (.cons .nil)) (Nat.le_of_ble_eq_true rfl)) eva_nil))))) (.cons (.cons (.cons (.cons (.cons .nil))))) (Nat.le_of_ble_eq_true rfl))) eva_nil)) O1) ?_
      dsimp only [List.set]
      walk_at "w"
      refine w_if (b := PyData.eqv (.int m3) (.int 0)) (s1 := [bxl b6]) (et_test (ev_op (ev_call (eva_cons (ev_var rfl) (eva_cons ev_int eva_nil)) T3) ev_int (o_eq rfl rfl))) ?_ ?_
      · intro _
        obtain ⟨dJ, hJ, mJ⟩ := pick (ds := [q2 5 1, q2 (-5) 1, q2 1 1, q2 2 1]) (b := b6) (Nat.le_of_ble_eq_true rfl)
        obtain ⟨a5, p5, rfl, F5⟩ : ∃ (e1 : Int) (e2 : Nat), dJ = q2 e1 e2 ∧ Fq e1 e2 := by
          simp only [List.mem_cons, List.not_mem_nil, or_false] at mJ
          rcases mJ with h | h | h | h
          · exact ⟨5, 1, h, fq_c⟩
          · exact ⟨-5, 1, h, fq_c⟩
          · exact ⟨1, 1, h, fq_c⟩
          · exact ⟨2, 1, h, fq_c⟩
        have O2 : R_of [.loc 0, .d (.list [q2 5 1, q2 (-5) 1, q2 1 1, q2 2 1])] [bxl b6] (.d (q2 a5 p5)) [bxl (tkB b6 (([q2 5 1, q2 (-5) 1, q2 1 1, q2 2 1].length : Nat) : Int))] := R_of.mk (l := 0) (c := e + 10) rfl (Nat.le_of_ble_eq_true rfl) (Nat.le_of_ble_eq_true rfl) k6 (by omega) hJ
        have k7 : Bk (e + 11) _ := k6.next (n := (([q2 5 1, q2 (-5) 1, q2 1 1, q2 2 1].length : Nat) : Int))
        generalize tkB b6 (([q2 5 1, q2 (-5) 1, q2 1 1, q2 2 1].length : Nat) : Int) = b6 at *
        obtain ⟨a1, ha1⟩ : ∃ a1 : Int, a1 = 3 := ⟨_, rfl⟩
        obtain ⟨p1, hp1⟩ : ∃ p1 : Nat, p1 = 1 := ⟨_, rfl⟩
        obtain ⟨a2, ha2⟩ : ∃ a2 : Int, a2 = -4 := ⟨_, rfl⟩
        obtain ⟨p2, hp2⟩ : ∃ p2 : Nat, p2 = 1 := ⟨_, rfl⟩
        have F1 : Fq a1 p1 := by rw [ha1, hp1]; exact fq_c
        have F2 : Fq a2 p2 := by rw [ha2, hp2]; exact fq_c
        refine w_par (x := .d (.tuple [q2 a1 p1, q2 a2 p2])) (y := .d (q2 a5 p5)) (s1 := [bxl b6]) (eva_cons (Ev.is (ev_tupU (ds := [q2 3 1, q2 (-4) 1]) (xs := [.d (q2 3 1), .d (q2 (-4) 1)]) (eva_cons (ev_tupU (ds := [.int 3, .int 1]) (eva_cons ev_int (eva_cons ev_int eva_nil)) (.cons (.cons .nil)) (Nat.le_of_ble_eq_true rfl)) (eva_cons (ev_tupU (ds := [.int (-4), .int 1]) (eva_cons (ev_un ev_int o_neg) (eva_cons ev_int eva_nil)) (.cons (.cons .nil)) (Nat.le_of_ble_eq_true rfl)) eva_nil)) (.cons (.cons .nil)) (Nat.le_of_ble_eq_true rfl)) (by rw [ha1, hp1, ha2, hp2]; rfl)) (eva_cons (ev_call (eva_cons (ev_var rfl) (eva_cons (ev_new (evn_lstU (ds := [q2 5 1, q2 (-5) 1, q2 1 1, q2 2 1]) (xs := [.d (q2 5 1), .d (q2 (-5) 1), .d (q2 1 1), .d (q2 2 1)]) (eva_cons (ev_tupU (ds := [.int 5, .int 1]) (eva_cons ev_int (eva_cons ev_int eva_nil)) (.cons (.cons .nil)) (Nat.le_of_ble_eq_true rfl)) (eva_cons (ev_tupU (ds := [.int (-5), .int 1]) (eva_cons (ev_un ev_int o_neg) (eva_cons ev_int eva_nil)) (.cons (.cons .nil)) (Nat.le_of_ble_eq_true rfl)) (eva_cons (ev_tupU (ds := [.int 1, .int 1]) (eva_cons ev_int (eva_cons ev_int eva_nil)) (.cons (.cons .nil)) (Nat.le_of_ble_eq_true rfl)) (eva_cons (ev_tupU (ds := [.int 2, .int 1]) (eva_cons ev_int (eva_cons ev_int eva_nil)) (.cons (.cons .nil)) (Nat.le_of_ble_eq_true rfl)) eva_nil)))) (.cons (.cons (.cons (.cons .nil)))) (Nat.le_of_ble_eq_true rfl))) eva_nil)) O2) eva_nil)) ?_
        dsimp only [List.set]
        have k6 : Bk (e + 11) b6 := k7
        clear F3 F4 D1 D2 D3 D4 O1 T3
        try dsimp only [List.set]
        walk_at "w"
        refine w_asg (x := .d (.list [hoopT a1 a2 a5 p1 p2 p5, pegT a1 a2 p1 p2])) (s1 := [bxl b6]) (ev_new (evn_lstU (ds := [hoopT a1 a2 a5 p1 p2 p5, pegT a1 a2 p1 p2]) (xs := [.d (hoopT a1 a2 a5 p1 p2 p5), .d (pegT a1 a2 p1 p2)]) (eva_cons (ev_tupU (xs := [.d (.str "hoop"), .d (.str "a"), .d (.str "c"), .d (.tuple [q2 a1 p1, q2 a2 p2]), .d (q2 a5 p5)]) (eva_cons ev_str (eva_cons ev_str (eva_cons ev_str (eva_cons (ev_var rfl) (eva_cons (ev_var rfl) eva_nil))))) (.cons (.cons (.cons (.cons (.cons .nil))))) (Nat.le_of_ble_eq_true rfl)) (eva_cons (ev_tupU (xs := [.d (.str "peg"), .d (.str "a.b"), .d (.str "o"), .d (.tuple [q2 a1 p1, q2 a2 p2])]) (eva_cons ev_str (eva_cons ev_str (eva_cons ev_str (eva_cons (ev_var rfl) eva_nil)))) (.cons (.cons (.cons (.cons .nil)))) (Nat.le_of_ble_eq_true rfl)) eva_nil)) (.cons (.cons .nil)) (Nat.le_of_ble_eq_true rfl))) ?_
        dsimp only [List.set]
        refine w_forR (c := 30) (s1 := [bxl b6]) (eva_cons ev_int eva_nil) (by decide) (fun j ρ s => ∃ b, Bk (e + 11 + 3 * j) b ∧ s = [bxl b] ∧ Lq (rs ns k (i : Int) (.tuple [q2 a1 p1, q2 a2 p2]) (q2 a5 p5) (.list [hoopT a1 a2 a5 p1 p2 p5, pegT a1 a2 p1 p2])) ρ) ⟨b6, k6, rfl, Lq.refl _⟩ ?_ ?_
        · rintro j ρ s2 N3 hj ⟨b, hc, rfl, hq⟩ hN3
          have hjj : 3 * j ≤ 90 := by omega
          generalize hcj : e + 11 + 3 * j = e2 at hc
          refine w_wk (hq.set 7 (some (.d (.int (j : Int))))) ?_
          dsimp only [List.set]
          have p10 := F1.p0; have p20 := F2.p0
          have f1 : CF a1 (p1 : Int) := cf_sm (by omega) (smn 1000 F1.p1)
          have f2 : CF a2 (p2 : Int) := cf_sm (by omega) (smn 1000 F2.p1)
          have sx : Sm 20 (a1.fdiv p1) := F1.s.le (fdiv_le (by omega))
          have sy : Sm 20 (a2.fdiv p2) := F2.s.le (fdiv_le (by omega))
          generalize hX : a1.fdiv p1 = X at *
          generalize hY : a2.fdiv p2 = Y at *
          have T1 : R_take [.loc 0, .d (.int 13)] [bxl b] (.d (.int (tkR b 13))) [bxl (tkB b 13)] := R_take.mk (l := 0) (c := e2) rfl (by decide) (by decide) hc (by omega)
          have g1 := tk_r (b := b) (n := 13) (by decide)
          have w1 : Bk (e2 + 1) (tkB b 13) := hc.next
          generalize tkR b 13 = m1 at *
          generalize tkB b 13 = c1 at *
          have T2 : R_take [.loc 0, .d (.int 13)] [bxl c1] (.d (.int (tkR c1 13))) [bxl (tkB c1 13)] := R_take.mk (l := 0) (c := e2 + 1) rfl (by decide) (by decide) w1 (by omega)
          have g2 := tk_r (b := c1) (n := 13) (by decide)
          have w2 : Bk (e2 + 2) (tkB c1 13) := w1.next
          generalize tkR c1 13 = m2 at *
          generalize tkB c1 13 = c2 at *
          have sm : ∀ z : Int, z.natAbs ≤ 100 → Sm 20 z := fun z h => .of 100 h
          have spx : Sm 100 (X + m1 - 6) := ((sx.add (sm m1 (by omega))).sub (sm 6 (by decide)).mono).mono
          have spy : Sm 100 (Y + m2 - 6) := ((sy.add (sm m2 (by omega))).sub (sm 6 (by decide)).mono).mono
          obtain ⟨dI, hI, mI⟩ := pick (ds := [q2 (X + m1 - 6) (Y + m2 - 6), q2 (X + m1 - 6) (Y + m2 - 6), q2 X Y, q2 (X - 1) Y, q2 X (Y - 1), q2 (X + 5) Y, q2 (X + 3) (Y + 4)]) (b := c2) (Nat.le_of_ble_eq_true rfl)
          obtain ⟨cx, cy, rfl, scx, scy⟩ : ∃ u v, dI = q2 u v ∧ Sm 100 u ∧ Sm 100 v := by
            simp only [List.mem_cons, List.not_mem_nil, or_false] at mI
            rcases mI with h | h | h | h | h | h | h
            · exact ⟨_, _, h, spx, spy⟩
            · exact ⟨_, _, h, spx, spy⟩
            · exact ⟨_, _, h, sx.mono, sy.mono⟩
            · exact ⟨_, _, h, (sx.sub (sm 1 (by decide))).mono, sy.mono⟩
            · exact ⟨_, _, h, sx.mono, (sy.sub (sm 1 (by decide))).mono⟩
            · exact ⟨_, _, h, (sx.add (sm 5 (by decide))).mono, sy.mono⟩
            · exact ⟨_, _, h, (sx.add (sm 3 (by decide))).mono, (sy.add (sm 4 (by decide))).mono⟩
          have O3 : R_of [.loc 0, .d (.list [q2 (X + m1 - 6) (Y + m2 - 6), q2 (X + m1 - 6) (Y + m2 - 6), q2 X Y, q2 (X - 1) Y, q2 X (Y - 1), q2 (X + 5) Y, q2 (X + 3) (Y + 4)])] [bxl c2] (.d (q2 cx cy)) [bxl (tkB c2 (([q2 (X + m1 - 6) (Y + m2 - 6), q2 (X + m1 - 6) (Y + m2 - 6), q2 X Y, q2 (X - 1) Y, q2 X (Y - 1), q2 (X + 5) Y, q2 (X + 3) (Y + 4)].length : Nat) : Int))] := R_of.mk (l := 0) (c := e2 + 2) rfl (Nat.le_of_ble_eq_true rfl) (Nat.le_of_ble_eq_true rfl) w2 (by omega) hI
          have w3 : Bk (e2 + 3) _ := w2.next (n := (([q2 (X + m1 - 6) (Y + m2 - 6), q2 (X + m1 - 6) (Y + m2 - 6), q2 X Y, q2 (X - 1) Y, q2 X (Y - 1), q2 (X + 5) Y, q2 (X + 3) (Y + 4)].length : Nat) : Int))
          generalize tkB c2 (([q2 (X + m1 - 6) (Y + m2 - 6), q2 (X + m1 - 6) (Y + m2 - 6), q2 X Y, q2 (X - 1) Y, q2 X (Y - 1), q2 (X + 5) Y, q2 (X + 3) (Y + 4)].length : Nat) : Int) = c3 at *
          obtain ⟨h1, M1, N1⟩ : ∃ h1 : Bool, (∀ s, R_marked [.d (hoopT a1 a2 a5 p1 p2 p5), .d (q2 cx cy)] s (.d (.bool h1)) s) ∧ (∀ s, R_marks [.d (hoopT a1 a2 a5 p1 p2 p5), .d (q2 cx cy)] s (.d (.bool h1)) s) := ⟨_, fun _ => .hoop F1.fr F2.fr F5.fr scx scy, fun _ => .hoop F1.fr F2.fr F5.fr scx scy⟩
          obtain ⟨h2, M2, N2'⟩ : ∃ h2 : Bool, (∀ s, R_marked [.d (pegT a1 a2 p1 p2), .d (q2 cx cy)] s (.d (.bool h2)) s) ∧ (∀ s, R_marks [.d (pegT a1 a2 p1 p2), .d (q2 cx cy)] s (.d (.bool h2)) s) := ⟨_, fun _ => .peg F1.fr F2.fr, fun _ => .peg F1.fr F2.fr⟩
          have SB : R_same 7 [.d (.list [.bool h1, .bool h2]), .d (.list [.bool h1, .bool h2])] [bxl c3] (.d (.bool true)) [bxl c3] := .mk rfl (Nat.le_of_ble_eq_true rfl) (Nat.le_of_ble_eq_true rfl) (by decide)
          walk_at "w"
          refine w_par (x := .d (.int X)) (y := .d (.int Y)) (s1 := [bxl b]) (eva_cons (Ev.is (ev_op (ev_op (ev_op (ev_var rfl) ev_int (o_ixT rfl)) ev_int (o_ixT rfl)) (ev_op (ev_op (ev_var rfl) ev_int (o_ixT rfl)) ev_int (o_ixT rfl)) (o_fdiv f1)) (by rw [hX])) (eva_cons (Ev.is (ev_op (ev_op (ev_op (ev_var rfl) ev_int (o_ixT rfl)) ev_int (o_ixT rfl)) (ev_op (ev_op (ev_var rfl) ev_int (o_ixT rfl)) ev_int (o_ixT rfl)) (o_fdiv f2)) (by rw [hY])) eva_nil)) ?_
          dsimp only [List.set]
          walk_at "w"
          refine w_asg (x := .d (q2 (X + m1 - 6) (Y + m2 - 6))) (s1 := [bxl c2]) (ev_tupU (xs := [.d (.int (X + m1 - 6)), .d (.int (Y + m2 - 6))]) (eva_cons (ev_op (ev_op (ev_var rfl) (ev_call (eva_cons (ev_var rfl) (eva_cons ev_int eva_nil)) T1) o_add) ev_int o_minus) (eva_cons (ev_op (ev_op (ev_var rfl) (ev_call (eva_cons (ev_var rfl) (eva_cons ev_int eva_nil)) T2) o_add) ev_int o_minus) eva_nil)) (.cons (.cons .nil)) (Nat.le_of_ble_eq_true rfl)) ?_
          dsimp only [List.set]
          walk_at "w"
          refine w_asg (x := .d (q2 cx cy)) (s1 := [bxl c3]) (ev_call (eva_cons (ev_var rfl) (eva_cons (ev_new (evn_lstU (ds := [q2 (X + m1 - 6) (Y + m2 - 6), q2 (X + m1 - 6) (Y + m2 - 6), q2 X Y, q2 (X - 1) Y, q2 X (Y - 1), q2 (X + 5) Y, q2 (X + 3) (Y + 4)]) (xs := [.d (q2 (X + m1 - 6) (Y + m2 - 6)), .d (q2 (X + m1 - 6) (Y + m2 - 6)), .d (q2 X Y), .d (q2 (X - 1) Y), .d (q2 X (Y - 1)), .d (q2 (X + 5) Y), .d (q2 (X + 3) (Y + 4))])
            (eva_cons (ev_var rfl) (eva_cons (ev_var rfl) (eva_cons (ev_tupU (eva_cons (ev_var rfl) (eva_cons (ev_var rfl) eva_nil)) (.cons (.cons .nil)) (Nat.le_of_ble_eq_true rfl)) (eva_cons (ev_tupU (eva_cons (ev_op (ev_var rfl) ev_int o_minus) (eva_cons (ev_var rfl) eva_nil)) (.cons (.cons .nil)) (Nat.le_of_ble_eq_true rfl)) (eva_cons (ev_tupU (eva_cons (ev_var rfl) (eva_cons (ev_op (ev_var rfl) ev_int o_minus) eva_nil)) (.cons (.cons .nil)) (Nat.le_of_ble_eq_true rfl)) (eva_cons (ev_tupU (eva_cons (ev_op (ev_var rfl) ev_int o_add) (eva_cons (ev_var rfl) eva_nil)) (.cons (.cons .nil)) (Nat.le_of_ble_eq_true rfl)) (eva_cons (ev_tupU (eva_cons (ev_op (ev_var rfl) ev_int o_add) (eva_cons (ev_op (ev_var rfl) ev_int o_add) eva_nil)) (.cons (.cons .nil)) (Nat.le_of_ble_eq_true rfl)) eva_nil)))))))
            (.cons (.cons (.cons (.cons (.cons (.cons (.cons .nil))))))) (Nat.le_of_ble_eq_true rfl))) eva_nil)) O3) ?_
          dsimp only [List.set]
          walk_at "w"
          refine w_asg (x := .d (.list [.bool h1, .bool h2])) (s1 := [bxl c3]) (ev_new (evn_lcL (S := fun _ => [bxl c3]) (ds := [hoopT a1 a2 a5 p1 p2 p5, pegT a1 a2 p1 p2]) (es := [.bool h1, .bool h2]) (ev_var rfl) rfl (Nat.le_of_ble_eq_true rfl) ?_)) ?_
          · intro i2 d2 e3 g3 g4
            have RR := two_d (P := fun d e => ∀ s, R_marked [.d d, .d (q2 cx cy)] s (.d e) s) g3 g4 M1 M2
            exact ev_call (eva_cons (ev_var rfl) (eva_cons (ev_var rfl) eva_nil)) (RR _)
          dsimp only [List.set]
          walk_at "w"
          refine w_if (b := false) (s1 := [bxl c3]) (et_not (b := true) (et_test (ev_call (eva_cons (ev_new (evn_lcL (S := fun _ => [bxl c3]) (ds := [hoopT a1 a2 a5 p1 p2 p5, pegT a1 a2 p1 p2]) (es := [.bool h1, .bool h2]) (ev_var rfl) rfl (Nat.le_of_ble_eq_true rfl) ?_)) (eva_cons (ev_var rfl) eva_nil)) SB))) (fun c => by cases c) ?_
          · intro i2 d2 e3 g3 g4
            have RR := two_d (P := fun d e => ∀ s, R_marks [.d d, .d (q2 cx cy)] s (.d e) s) g3 g4 N1 N2'
            exact ev_call (eva_cons (ev_var rfl) (eva_cons (ev_var rfl) eva_nil)) (RR _)
          intro _
          try dsimp only
          obtain ⟨d3, h3, hk2, ix1, ix2, RM⟩ : ∃ (d3 : PyData) (h3 : Bool) (z : Int), (j : Int).fmod 2 = z ∧ (atI [hoopT a1 a2 a5 p1 p2 p5, pegT a1 a2 p1 p2] z = some d3 ∧ atI [PyData.bool h1, PyData.bool h2] z = some (.bool h3)) ∧ (∀ s, R_marks [.d d3, .d (q2 cx cy)] s (.d (.bool h3)) s) := by
            have em : (j : Int).fmod 2 = ((j % 2 : Nat) : Int) := cast_fmod (p := j) (q := 2) (by decide)
            rcases (show j % 2 = 0 ∨ j % 2 = 1 by omega) with z | z
            · exact ⟨_, h1, 0, by rw [em, z]; rfl, ⟨rfl, rfl⟩, N1⟩
            · exact ⟨_, h2, 1, by rw [em, z]; rfl, ⟨rfl, rfl⟩, N2'⟩
          have SB2 : R_same 7 [.d (.bool h3), .d (.bool h3)] [bxl c3] (.d (.bool true)) [bxl c3] := .mk rfl (Nat.le_of_ble_eq_true rfl) (Nat.le_of_ble_eq_true rfl) (by decide)
          have IX : ∀ (ρ : En) , ρ[7]? = some (some (.d (.int (j : Int)))) → Ev K (tOp rMod (tVar 7) (tC (.int 2))) ρ [bxl c3] (.d (.int hk2)) [bxl c3] := fun ρ h => Ev.is (ev_op (ev_var h) ev_int (o_mod (by decide))) (by rw [ix1])
          walk_at "w"
          dsimp only
          refine w_if (b := false) (s1 := [bxl c3]) (et_not (b := true) (et_B (ev_call (xs := [.d (.bool h3), .d (.bool h3)]) ?_ SB2))) (fun c => by cases c) ?_
          · refine eva_cons (s1 := [bxl c3]) ?_ (eva_cons (s1 := [bxl c3]) ?_ eva_nil)
            · refine ev_callK (ys := [.d (q2 cx cy), .d d3]) (s1 := [bxl c3]) ?_ rfl (fun _ _ _ hh => rxs_swap2 hh) (RM _)
              refine eva_cons (ev_var rfl) (eva_cons (s1 := [bxl c3]) ?_ eva_nil)
              refine ev_op (x := .d (.list [hoopT a1 a2 a5 p1 p2 p5, pegT a1 a2 p1 p2])) (y := .d (.int hk2)) (s1 := [bxl c3]) (s2 := [bxl c3]) (ev_var rfl) ?_ (o_ixL ix2.1)
              exact IX _ rfl
            · refine ev_op (x := .d (.list [.bool h1, .bool h2])) (y := .d (.int hk2)) (s1 := [bxl c3]) (s2 := [bxl c3]) (ev_var rfl) ?_ (o_ixL ix2.2)
              exact IX _ rfl
          intro _
          try dsimp only
          walk_at "w"
          exact hN3 _ _ ⟨c3, by have := w3; rw [← hcj] at this; exact this, rfl, .same (.same (.same (.same (.same (.same (.same (.none (.none (.none (.none (.none (.none .nil))))))))))))⟩
        · rintro ρ s2 ⟨b, hc, rfl, hq⟩
          exact hN2 _ _ ⟨b, by have := hc.mono (d := 200 * (i + 1)) (by omega); exact this, rfl, Lq.trans (.same (.same (.same (.none (.none (.none (.none (.none (.none (.none (.none (.none (.none .nil))))))))))))) hq⟩
      · intro _
        have k6 : Bk (e + 11) b6 := k6.mono (by omega)
        clear D1 D2 D3 D4 O1 T3
        try dsimp only [List.set]
        walk_at "w"
        refine w_asg (x := .d (.list [hoopT a1 a2 a5 p1 p2 p5, pegT a1 a2 p1 p2])) (s1 := [bxl b6]) (ev_new (evn_lstU (ds := [hoopT a1 a2 a5 p1 p2 p5, pegT a1 a2 p1 p2]) (xs := [.d (hoopT a1 a2 a5 p1 p2 p5), .d (pegT a1 a2 p1 p2)]) (eva_cons (ev_tupU (xs := [.d (.str "hoop"), .d (.str "a"), .d (.str "c"), .d (.tuple [q2 a1 p1, q2 a2 p2]), .d (q2 a5 p5)]) (eva_cons ev_str (eva_cons ev_str (eva_cons ev_str (eva_cons (ev_var rfl) (eva_cons (ev_var rfl) eva_nil))))) (.cons (.cons (.cons (.cons (.cons .nil))))) (Nat.le_of_ble_eq_true rfl)) (eva_cons (ev_tupU (xs := [.d (.str "peg"), .d (.str "a.b"), .d (.str "o"), .d (.tuple [q2 a1 p1, q2 a2 p2])]) (eva_cons ev_str (eva_cons ev_str (eva_cons ev_str (eva_cons (ev_var rfl) eva_nil)))) (.cons (.cons (.cons (.cons .nil)))) (Nat.le_of_ble_eq_true rfl)) eva_nil)) (.cons (.cons .nil)) (Nat.le_of_ble_eq_true rfl))) ?_
        dsimp only [List.set]
        refine w_forR (c := 30) (s1 := [bxl b6]) (eva_cons ev_int eva_nil) (by decide) (fun j ρ s => ∃ b, Bk (e + 11 + 3 * j) b ∧ s = [bxl b] ∧ Lq (rs ns k (i : Int) (.tuple [q2 a1 p1, q2 a2 p2]) (q2 a5 p5) (.list [hoopT a1 a2 a5 p1 p2 p5, pegT a1 a2 p1 p2])) ρ) ⟨b6, k6, rfl, Lq.refl _⟩ ?_ ?_
        · rintro j ρ s2 N3 hj ⟨b, hc, rfl, hq⟩ hN3
          have hjj : 3 * j ≤ 90 := by omega
          generalize hcj : e + 11 + 3 * j = e2 at hc
          refine w_wk (hq.set 7 (some (.d (.int (j : Int))))) ?_
          dsimp only [List.set]
          have p10 := F1.p0; have p20 := F2.p0
          have f1 : CF a1 (p1 : Int) := cf_sm (by omega) (smn 1000 F1.p1)
          have f2 : CF a2 (p2 : Int) := cf_sm (by omega) (smn 1000 F2.p1)
          have sx : Sm 20 (a1.fdiv p1) := F1.s.le (fdiv_le (by omega))
          have sy : Sm 20 (a2.fdiv p2) := F2.s.le (fdiv_le (by omega))
          generalize hX : a1.fdiv p1 = X at *
          generalize hY : a2.fdiv p2 = Y at *
          have T1 : R_take [.loc 0, .d (.int 13)] [bxl b] (.d (.int (tkR b 13))) [bxl (tkB b 13)] := R_take.mk (l := 0) (c := e2) rfl (by decide) (by decide) hc (by omega)
          have g1 := tk_r (b := b) (n := 13) (by decide)
          have w1 : Bk (e2 + 1) (tkB b 13) := hc.next
          generalize tkR b 13 = m1 at *
          generalize tkB b 13 = c1 at *
          have T2 : R_take [.loc 0, .d (.int 13)] [bxl c1] (.d (.int (tkR c1 13))) [bxl (tkB c1 13)] := R_take.mk (l := 0) (c := e2 + 1) rfl (by decide) (by decide) w1 (by omega)
          have g2 := tk_r (b := c1) (n := 13) (by decide)
          have w2 : Bk (e2 + 2) (tkB c1 13) := w1.next
          generalize tkR c1 13 = m2 at *
          generalize tkB c1 13 = c2 at *
          have sm : ∀ z : Int, z.natAbs ≤ 100 → Sm 20 z := fun z h => .of 100 h
          have spx : Sm 100 (X + m1 - 6) := ((sx.add (sm m1 (by omega))).sub (sm 6 (by decide)).mono).mono
          have spy : Sm 100 (Y + m2 - 6) := ((sy.add (sm m2 (by omega))).sub (sm 6 (by decide)).mono).mono
          obtain ⟨dI, hI, mI⟩ := pick (ds := [q2 (X + m1 - 6) (Y + m2 - 6), q2 (X + m1 - 6) (Y + m2 - 6), q2 X Y, q2 (X - 1) Y, q2 X (Y - 1), q2 (X + 5) Y, q2 (X + 3) (Y + 4)]) (b := c2) (Nat.le_of_ble_eq_true rfl)
          obtain ⟨cx, cy, rfl, scx, scy⟩ : ∃ u v, dI = q2 u v ∧ Sm 100 u ∧ Sm 100 v := by
            simp only [List.mem_cons, List.not_mem_nil, or_false] at mI
            rcases mI with h | h | h | h | h | h | h
            · exact ⟨_, _, h, spx, spy⟩
            · exact ⟨_, _, h, spx, spy⟩
            · exact ⟨_, _, h, sx.mono, sy.mono⟩
            · exact ⟨_, _, h, (sx.sub (sm 1 (by decide))).mono, sy.mono⟩
            · exact ⟨_, _, h, sx.mono, (sy.sub (sm 1 (by decide))).mono⟩
            · exact ⟨_, _, h, (sx.add (sm 5 (by decide))).mono, sy.mono⟩
            · exact ⟨_, _, h, (sx.add (sm 3 (by decide))).mono, (sy.add (sm 4 (by decide))).mono⟩
          have O3 : R_of [.loc 0, .d (.list [q2 (X + m1 - 6) (Y + m2 - 6), q2 (X + m1 - 6) (Y + m2 - 6), q2 X Y, q2 (X - 1) Y, q2 X (Y - 1), q2 (X + 5) Y, q2 (X + 3) (Y + 4)])] [bxl c2] (.d (q2 cx cy)) [bxl (tkB c2 (([q2 (X + m1 - 6) (Y + m2 - 6), q2 (X + m1 - 6) (Y + m2 - 6), q2 X Y, q2 (X - 1) Y, q2 X (Y - 1), q2 (X + 5) Y, q2 (X + 3) (Y + 4)].length : Nat) : Int))] := R_of.mk (l := 0) (c := e2 + 2) rfl (Nat.le_of_ble_eq_true rfl) (Nat.le_of_ble_eq_true rfl) w2 (by omega) hI
          have w3 : Bk (e2 + 3) _ := w2.next (n := (([q2 (X + m1 - 6) (Y + m2 - 6), q2 (X + m1 - 6) (Y + m2 - 6), q2 X Y, q2 (X - 1) Y, q2 X (Y - 1), q2 (X + 5) Y, q2 (X + 3) (Y + 4)].length : Nat) : Int))
          generalize tkB c2 (([q2 (X + m1 - 6) (Y + m2 - 6), q2 (X + m1 - 6) (Y + m2 - 6), q2 X Y, q2 (X - 1) Y, q2 X (Y - 1), q2 (X + 5) Y, q2 (X + 3) (Y + 4)].length : Nat) : Int) = c3 at *
          obtain ⟨h1, M1, N1⟩ : ∃ h1 : Bool, (∀ s, R_marked [.d (hoopT a1 a2 a5 p1 p2 p5), .d (q2 cx cy)] s (.d (.bool h1)) s) ∧ (∀ s, R_marks [.d (hoopT a1 a2 a5 p1 p2 p5), .d (q2 cx cy)] s (.d (.bool h1)) s) := ⟨_, fun _ => .hoop F1.fr F2.fr F5.fr scx scy, fun _ => .hoop F1.fr F2.fr F5.fr scx scy⟩
          obtain ⟨h2, M2, N2'⟩ : ∃ h2 : Bool, (∀ s, R_marked [.d (pegT a1 a2 p1 p2), .d (q2 cx cy)] s (.d (.bool h2)) s) ∧ (∀ s, R_marks [.d (pegT a1 a2 p1 p2), .d (q2 cx cy)] s (.d (.bool h2)) s) := ⟨_, fun _ => .peg F1.fr F2.fr, fun _ => .peg F1.fr F2.fr⟩
          have SB : R_same 7 [.d (.list [.bool h1, .bool h2]), .d (.list [.bool h1, .bool h2])] [bxl c3] (.d (.bool true)) [bxl c3] := .mk rfl (Nat.le_of_ble_eq_true rfl) (Nat.le_of_ble_eq_true rfl) (by decide)
          walk_at "w"
          refine w_par (x := .d (.int X)) (y := .d (.int Y)) (s1 := [bxl b]) (eva_cons (Ev.is (ev_op (ev_op (ev_op (ev_var rfl) ev_int (o_ixT rfl)) ev_int (o_ixT rfl)) (ev_op (ev_op (ev_var rfl) ev_int (o_ixT rfl)) ev_int (o_ixT rfl)) (o_fdiv f1)) (by rw [hX])) (eva_cons (Ev.is (ev_op (ev_op (ev_op (ev_var rfl) ev_int (o_ixT rfl)) ev_int (o_ixT rfl)) (ev_op (ev_op (ev_var rfl) ev_int (o_ixT rfl)) ev_int (o_ixT rfl)) (o_fdiv f2)) (by rw [hY])) eva_nil)) ?_
          dsimp only [List.set]
          walk_at "w"
          refine w_asg (x := .d (q2 (X + m1 - 6) (Y + m2 - 6))) (s1 := [bxl c2]) (ev_tupU (xs := [.d (.int (X + m1 - 6)), .d (.int (Y + m2 - 6))]) (eva_cons (ev_op (ev_op (ev_var rfl) (ev_call (eva_cons (ev_var rfl) (eva_cons ev_int eva_nil)) T1) o_add) ev_int o_minus) (eva_cons (ev_op (ev_op (ev_var rfl) (ev_call (eva_cons (ev_var rfl) (eva_cons ev_int eva_nil)) T2) o_add) ev_int o_minus) eva_nil)) (.cons (.cons .nil)) (Nat.le_of_ble_eq_true rfl)) ?_
          dsimp only [List.set]
          walk_at "w"
          refine w_asg (x := .d (q2 cx cy)) (s1 := [bxl c3]) (ev_call (eva_cons (ev_var rfl) (eva_cons (ev_new (evn_lstU (ds := [q2 (X + m1 - 6) (Y + m2 - 6), q2 (X + m1 - 6) (Y + m2 - 6), q2 X Y, q2 (X - 1) Y, q2 X (Y - 1), q2 (X + 5) Y, q2 (X + 3) (Y + 4)]) (xs := [.d (q2 (X + m1 - 6) (Y + m2 - 6)), .d (q2 (X + m1 - 6) (Y + m2 - 6)), .d (q2 X Y), .d (q2 (X - 1) Y), .d (q2 X (Y - 1)), .d (q2 (X + 5) Y), .d (q2 (X + 3) (Y + 4))])
            (eva_cons (ev_var rfl) (eva_cons (ev_var rfl) (eva_cons (ev_tupU (eva_cons (ev_var rfl) (eva_cons (ev_var rfl) eva_nil)) (.cons (.cons .nil)) (Nat.le_of_ble_eq_true rfl)) (eva_cons (ev_tupU (eva_cons (ev_op (ev_var rfl) ev_int o_minus) (eva_cons (ev_var rfl) eva_nil)) (.cons (.cons .nil)) (Nat.le_of_ble_eq_true rfl)) (eva_cons (ev_tupU (eva_cons (ev_var rfl) (eva_cons (ev_op (ev_var rfl) ev_int o_minus) eva_nil)) (.cons (.cons .nil)) (Nat.le_of_ble_eq_true rfl)) (eva_cons (ev_tupU (eva_cons (ev_op (ev_var rfl) ev_int o_add) (eva_cons (ev_var rfl) eva_nil)) (.cons (.cons .nil)) (Nat.le_of_ble_eq_true rfl)) (eva_cons (ev_tupU (eva_cons (ev_op (ev_var rfl) ev_int o_add) (eva_cons (ev_op (ev_var rfl) ev_int o_add) eva_nil)) (.cons (.cons .nil)) (Nat.le_of_ble_eq_true rfl)) eva_nil)))))))
            (.cons (.cons (.cons (.cons (.cons (.cons (.cons .nil))))))) (Nat.le_of_ble_eq_true rfl))) eva_nil)) O3) ?_
          dsimp only [List.set]
          walk_at "w"
          refine w_asg (x := .d (.list [.bool h1, .bool h2])) (s1 := [bxl c3]) (ev_new (evn_lcL (S := fun _ => [bxl c3]) (ds := [hoopT a1 a2 a5 p1 p2 p5, pegT a1 a2 p1 p2]) (es := [.bool h1, .bool h2]) (ev_var rfl) rfl (Nat.le_of_ble_eq_true rfl) ?_)) ?_
          · intro i2 d2 e3 g3 g4
            have RR := two_d (P := fun d e => ∀ s, R_marked [.d d, .d (q2 cx cy)] s (.d e) s) g3 g4 M1 M2
            exact ev_call (eva_cons (ev_var rfl) (eva_cons (ev_var rfl) eva_nil)) (RR _)
          dsimp only [List.set]
          walk_at "w"
          refine w_if (b := false) (s1 := [bxl c3]) (et_not (b := true) (et_test (ev_call (eva_cons (ev_new (evn_lcL (S := fun _ => [bxl c3]) (ds := [hoopT a1 a2 a5 p1 p2 p5, pegT a1 a2 p1 p2]) (es := [.bool h1, .bool h2]) (ev_var rfl) rfl (Nat.le_of_ble_eq_true rfl) ?_)) (eva_cons (ev_var rfl) eva_nil)) SB))) (fun c => by cases c) ?_
          · intro i2 d2 e3 g3 g4
            have RR := two_d (P := fun d e => ∀ s, R_marks [.d d, .d (q2 cx cy)] s (.d e) s) g3 g4 N1 N2'
            exact ev_call (eva_cons (ev_var rfl) (eva_cons (ev_var rfl) eva_nil)) (RR _)
          intro _
          try dsimp only
          obtain ⟨d3, h3, hk2, ix1, ix2, RM⟩ : ∃ (d3 : PyData) (h3 : Bool) (z : Int), (j : Int).fmod 2 = z ∧ (atI [hoopT a1 a2 a5 p1 p2 p5, pegT a1 a2 p1 p2] z = some d3 ∧ atI [PyData.bool h1, PyData.bool h2] z = some (.bool h3)) ∧ (∀ s, R_marks [.d d3, .d (q2 cx cy)] s (.d (.bool h3)) s) := by
            have em : (j : Int).fmod 2 = ((j % 2 : Nat) : Int) := cast_fmod (p := j) (q := 2) (by decide)
            rcases (show j % 2 = 0 ∨ j % 2 = 1 by omega) with z | z
            · exact ⟨_, h1, 0, by rw [em, z]; rfl, ⟨rfl, rfl⟩, N1⟩
            · exact ⟨_, h2, 1, by rw [em, z]; rfl, ⟨rfl, rfl⟩, N2'⟩
          have SB2 : R_same 7 [.d (.bool h3), .d (.bool h3)] [bxl c3] (.d (.bool true)) [bxl c3] := .mk rfl (Nat.le_of_ble_eq_true rfl) (Nat.le_of_ble_eq_true rfl) (by decide)
          have IX : ∀ (ρ : En) , ρ[7]? = some (some (.d (.int (j : Int)))) → Ev K (tOp rMod (tVar 7) (tC (.int 2))) ρ [bxl c3] (.d (.int hk2)) [bxl c3] := fun ρ h => Ev.is (ev_op (ev_var h) ev_int (o_mod (by decide))) (by rw [ix1])
          walk_at "w"
          dsimp only
          refine w_if (b := false) (s1 := [bxl c3]) (et_not (b := true) (et_B (ev_call (xs := [.d (.bool h3), .d (.bool h3)]) ?_ SB2))) (fun c => by cases c) ?_
          · refine eva_cons (s1 := [bxl c3]) ?_ (eva_cons (s1 := [bxl c3]) ?_ eva_nil)
            · refine ev_callK (ys := [.d (q2 cx cy), .d d3]) (s1 := [bxl c3]) ?_ rfl (fun _ _ _ hh => rxs_swap2 hh) (RM _)
              refine eva_cons (ev_var rfl) (eva_cons (s1 := [bxl c3]) ?_ eva_nil)
              refine ev_op (x := .d (.list [hoopT a1 a2 a5 p1 p2 p5, pegT a1 a2 p1 p2])) (y := .d (.int hk2)) (s1 := [bxl c3]) (s2 := [bxl c3]) (ev_var rfl) ?_ (o_ixL ix2.1)
              exact IX _ rfl
            · refine ev_op (x := .d (.list [.bool h1, .bool h2])) (y := .d (.int hk2)) (s1 := [bxl c3]) (s2 := [bxl c3]) (ev_var rfl) ?_ (o_ixL ix2.2)
              exact IX _ rfl
          intro _
          try dsimp only
          walk_at "w"
          exact hN3 _ _ ⟨c3, by have := w3; rw [← hcj] at this; exact this, rfl, .same (.same (.same (.same (.same (.same (.same (.none (.none (.none (.none (.none (.none .nil))))))))))))⟩
        · rintro ρ s2 ⟨b, hc, rfl, hq⟩
          exact hN2 _ _ ⟨b, by have := hc.mono (d := 200 * (i + 1)) (by omega); exact this, rfl, Lq.trans (.same (.same (.same (.none (.none (.none (.none (.none (.none (.none (.none (.none (.none .nil))))))))))))) hq⟩
    · rintro ρ s2 ⟨b, hc, rfl, hq⟩
      have HQ : Lq (rho0 N_law [.scr ns]) ρ := Lq.trans (.same (.none (.none (.none (.none (.none (.none (.none (.none (.none (.none (.none (.none .nil))))))))))))) hq
      refine w_cut (s := []) (ρ' := rho0 N_law [.scr ns]) ?_ (Nat.zero_le _) trivial HQ.len HQ.at_
      exact hN _ _ ⟨rfl, rfl⟩
  · rintro ρ s2 ⟨rfl, rfl⟩
    dsimp only
    refine w_ret (x := .d (.bool true)) (s1 := []) ?_ okr_true
    exact ev_bl
end
end K47
namespace K47
open PySem L2 Pw
abbrev PL : PySem.W.OpenLaw := PySem.Challenge.rw_pegwishes_k47_cells_of_hoops_and_pegs
theorem all_mk {w : World} {K : PySem.W.Frag} {h : Heap} {mg : Str → Option Value} {fa : Addr} (X : K.In h) (G : h.Ns mainGlobals mg) (hfa : mg "law" = some (.ref fa))
    {f_floor_of : Addr} {od_floor_of an_floor_of : Option Addr} {sl_floor_of : Array (Option Value)} {oc_floor_of kV_floor_of dc_floor_of pm_floor_of cd_floor_of ct_floor_of : Value}
    {f_marks : Addr} {od_marks an_marks : Option Addr} {sl_marks : Array (Option Value)} {oc_marks kV_marks dc_marks pm_marks cd_marks ct_marks : Value}
    {f__cell_of : Addr} {od__cell_of an__cell_of : Option Addr} {sl__cell_of : Array (Option Value)} {oc__cell_of kV__cell_of dc__cell_of pm__cell_of cd__cell_of ct__cell_of : Value}
    {f__whole : Addr} {od__whole an__whole : Option Addr} {sl__whole : Array (Option Value)} {oc__whole kV__whole dc__whole pm__whole cd__whole ct__whole : Value}
    {f__string_marks : Addr} {od__string_marks an__string_marks : Option Addr} {sl__string_marks : Array (Option Value)} {oc__string_marks kV__string_marks dc__string_marks pm__string_marks cd__string_marks ct__string_marks : Value}
    {f__hoop_marks : Addr} {od__hoop_marks an__hoop_marks : Option Addr} {sl__hoop_marks : Array (Option Value)} {oc__hoop_marks kV__hoop_marks dc__hoop_marks pm__hoop_marks cd__hoop_marks ct__hoop_marks : Value}
    {f__square : Addr} {od__square an__square : Option Addr} {sl__square : Array (Option Value)} {oc__square kV__square dc__square pm__square cd__square ct__square : Value}
    {f__law_cell_at : Addr} {od__law_cell_at an__law_cell_at : Option Addr} {sl__law_cell_at : Array (Option Value)} {oc__law_cell_at kV__law_cell_at dc__law_cell_at pm__law_cell_at cd__law_cell_at ct__law_cell_at : Value}
    {f__law_box : Addr} {od__law_box an__law_box : Option Addr} {sl__law_box : Array (Option Value)} {oc__law_box kV__law_box dc__law_box pm__law_box cd__law_box ct__law_box : Value}
    {f__law_take : Addr} {od__law_take an__law_take : Option Addr} {sl__law_take : Array (Option Value)} {oc__law_take kV__law_take dc__law_take pm__law_take cd__law_take ct__law_take : Value}
    {f__law_same : Addr} {od__law_same an__law_same : Option Addr} {sl__law_same : Array (Option Value)} {oc__law_same kV__law_same dc__law_same pm__law_same cd__law_same ct__law_same : Value}
    {f__law_of : Addr} {od__law_of an__law_of : Option Addr} {sl__law_of : Array (Option Value)} {oc__law_of kV__law_of dc__law_of pm__law_of cd__law_of ct__law_of : Value}
    {f__law_frac : Addr} {od__law_frac an__law_frac : Option Addr} {sl__law_frac : Array (Option Value)} {oc__law_frac kV__law_frac dc__law_frac pm__law_frac cd__law_frac ct__law_frac : Value}
    {f__law_draw : Addr} {od__law_draw an__law_draw : Option Addr} {sl__law_draw : Array (Option Value)} {oc__law_draw kV__law_draw dc__law_draw pm__law_draw cd__law_draw ct__law_draw : Value}
    {f__law_ends : Addr} {od__law_ends an__law_ends : Option Addr} {sl__law_ends : Array (Option Value)} {oc__law_ends kV__law_ends dc__law_ends pm__law_ends cd__law_ends ct__law_ends : Value}
    {f__law_round : Addr} {od__law_round an__law_round : Option Addr} {sl__law_round : Array (Option Value)} {oc__law_round kV__law_round dc__law_round pm__law_round cd__law_round ct__law_round : Value}
    {f__law_marked : Addr} {od__law_marked an__law_marked : Option Addr} {sl__law_marked : Array (Option Value)} {oc__law_marked kV__law_marked dc__law_marked pm__law_marked cd__law_marked ct__law_marked : Value}
    {f_law : Addr} {od_law an_law : Option Addr} {sl_law : Array (Option Value)} {oc_law kV_law dc_law pm_law cd_law ct_law : Value}
    (a_floor_of : PySem.W.nsIn K mainGlobals "floor_of" = some (some (.ref f_floor_of)))
    (l_floor_of : K.lookup f_floor_of = some ⟨oc_floor_of, od_floor_of, .func (PySem.W.fnOf "floor_of" "floor_of" (defArgs s_floor_of) (defBody s_floor_of) (defScope s_floor_of) .none kV_floor_of dc_floor_of pm_floor_of an_floor_of cd_floor_of ct_floor_of), sl_floor_of⟩)
    (c_floor_of : PySem.W.codeIn K cd_floor_of "floor_of" = true)
    (k_floor_of : PySem.W.keepIn K (.ref f_floor_of) = true)
    (a_marks : PySem.W.nsIn K mainGlobals "marks" = some (some (.ref f_marks)))
    (l_marks : K.lookup f_marks = some ⟨oc_marks, od_marks, .func (PySem.W.fnOf "marks" "marks" (defArgs s_marks) (defBody s_marks) (defScope s_marks) .none kV_marks dc_marks pm_marks an_marks cd_marks ct_marks), sl_marks⟩)
    (c_marks : PySem.W.codeIn K cd_marks "marks" = true)
    (k_marks : PySem.W.keepIn K (.ref f_marks) = true)
    (a__cell_of : PySem.W.nsIn K mainGlobals "_cell_of" = some (some (.ref f__cell_of)))
    (l__cell_of : K.lookup f__cell_of = some ⟨oc__cell_of, od__cell_of, .func (PySem.W.fnOf "_cell_of" "_cell_of" (defArgs s__cell_of) (defBody s__cell_of) (defScope s__cell_of) .none kV__cell_of dc__cell_of pm__cell_of an__cell_of cd__cell_of ct__cell_of), sl__cell_of⟩)
    (c__cell_of : PySem.W.codeIn K cd__cell_of "_cell_of" = true)
    (k__cell_of : PySem.W.keepIn K (.ref f__cell_of) = true)
    (a__whole : PySem.W.nsIn K mainGlobals "_whole" = some (some (.ref f__whole)))
    (l__whole : K.lookup f__whole = some ⟨oc__whole, od__whole, .func (PySem.W.fnOf "_whole" "_whole" (defArgs s__whole) (defBody s__whole) (defScope s__whole) .none kV__whole dc__whole pm__whole an__whole cd__whole ct__whole), sl__whole⟩)
    (c__whole : PySem.W.codeIn K cd__whole "_whole" = true)
    (k__whole : PySem.W.keepIn K (.ref f__whole) = true)
    (a__string_marks : PySem.W.nsIn K mainGlobals "_string_marks" = some (some (.ref f__string_marks)))
    (l__string_marks : K.lookup f__string_marks = some ⟨oc__string_marks, od__string_marks, .func (PySem.W.fnOf "_string_marks" "_string_marks" (defArgs s__string_marks) (defBody s__string_marks) (defScope s__string_marks) .none kV__string_marks dc__string_marks pm__string_marks an__string_marks cd__string_marks ct__string_marks), sl__string_marks⟩)
    (c__string_marks : PySem.W.codeIn K cd__string_marks "_string_marks" = true)
    (k__string_marks : PySem.W.keepIn K (.ref f__string_marks) = true)
    (a__hoop_marks : PySem.W.nsIn K mainGlobals "_hoop_marks" = some (some (.ref f__hoop_marks)))
    (l__hoop_marks : K.lookup f__hoop_marks = some ⟨oc__hoop_marks, od__hoop_marks, .func (PySem.W.fnOf "_hoop_marks" "_hoop_marks" (defArgs s__hoop_marks) (defBody s__hoop_marks) (defScope s__hoop_marks) .none kV__hoop_marks dc__hoop_marks pm__hoop_marks an__hoop_marks cd__hoop_marks ct__hoop_marks), sl__hoop_marks⟩)
    (c__hoop_marks : PySem.W.codeIn K cd__hoop_marks "_hoop_marks" = true)
    (k__hoop_marks : PySem.W.keepIn K (.ref f__hoop_marks) = true)
    (a__square : PySem.W.nsIn K mainGlobals "_square" = some (some (.ref f__square)))
    (l__square : K.lookup f__square = some ⟨oc__square, od__square, .func (PySem.W.fnOf "_square" "_square" (defArgs s__square) (defBody s__square) (defScope s__square) .none kV__square dc__square pm__square an__square cd__square ct__square), sl__square⟩)
    (c__square : PySem.W.codeIn K cd__square "_square" = true)
    (k__square : PySem.W.keepIn K (.ref f__square) = true)
    (a__law_cell_at : PySem.W.nsIn K mainGlobals "_law_cell_at" = some (some (.ref f__law_cell_at)))
    (l__law_cell_at : K.lookup f__law_cell_at = some ⟨oc__law_cell_at, od__law_cell_at, .func (PySem.W.fnOf "_law_cell_at" "_law_cell_at" (defArgs s__law_cell_at) (defBody s__law_cell_at) (defScope s__law_cell_at) .none kV__law_cell_at dc__law_cell_at pm__law_cell_at an__law_cell_at cd__law_cell_at ct__law_cell_at), sl__law_cell_at⟩)
    (c__law_cell_at : PySem.W.codeIn K cd__law_cell_at "_law_cell_at" = true)
    (k__law_cell_at : PySem.W.keepIn K (.ref f__law_cell_at) = true)
    (a__law_box : PySem.W.nsIn K mainGlobals "_law_box" = some (some (.ref f__law_box)))
    (l__law_box : K.lookup f__law_box = some ⟨oc__law_box, od__law_box, .func (PySem.W.fnOf "_law_box" "_law_box" (defArgs s__law_box) (defBody s__law_box) (defScope s__law_box) .none kV__law_box dc__law_box pm__law_box an__law_box cd__law_box ct__law_box), sl__law_box⟩)
    (c__law_box : PySem.W.codeIn K cd__law_box "_law_box" = true)
    (k__law_box : PySem.W.keepIn K (.ref f__law_box) = true)
    (a__law_take : PySem.W.nsIn K mainGlobals "_law_take" = some (some (.ref f__law_take)))
    (l__law_take : K.lookup f__law_take = some ⟨oc__law_take, od__law_take, .func (PySem.W.fnOf "_law_take" "_law_take" (defArgs s__law_take) (defBody s__law_take) (defScope s__law_take) .none kV__law_take dc__law_take pm__law_take an__law_take cd__law_take ct__law_take), sl__law_take⟩)
    (c__law_take : PySem.W.codeIn K cd__law_take "_law_take" = true)
    (k__law_take : PySem.W.keepIn K (.ref f__law_take) = true)
    (a__law_same : PySem.W.nsIn K mainGlobals "_law_same" = some (some (.ref f__law_same)))
    (l__law_same : K.lookup f__law_same = some ⟨oc__law_same, od__law_same, .func (PySem.W.fnOf "_law_same" "_law_same" (defArgs s__law_same) (defBody s__law_same) (defScope s__law_same) .none kV__law_same dc__law_same pm__law_same an__law_same cd__law_same ct__law_same), sl__law_same⟩)
    (c__law_same : PySem.W.codeIn K cd__law_same "_law_same" = true)
    (k__law_same : PySem.W.keepIn K (.ref f__law_same) = true)
    (a__law_of : PySem.W.nsIn K mainGlobals "_law_of" = some (some (.ref f__law_of)))
    (l__law_of : K.lookup f__law_of = some ⟨oc__law_of, od__law_of, .func (PySem.W.fnOf "_law_of" "_law_of" (defArgs s__law_of) (defBody s__law_of) (defScope s__law_of) .none kV__law_of dc__law_of pm__law_of an__law_of cd__law_of ct__law_of), sl__law_of⟩)
    (c__law_of : PySem.W.codeIn K cd__law_of "_law_of" = true)
    (k__law_of : PySem.W.keepIn K (.ref f__law_of) = true)
    (a__law_frac : PySem.W.nsIn K mainGlobals "_law_frac" = some (some (.ref f__law_frac)))
    (l__law_frac : K.lookup f__law_frac = some ⟨oc__law_frac, od__law_frac, .func (PySem.W.fnOf "_law_frac" "_law_frac" (defArgs s__law_frac) (defBody s__law_frac) (defScope s__law_frac) .none kV__law_frac dc__law_frac pm__law_frac an__law_frac cd__law_frac ct__law_frac), sl__law_frac⟩)
    (c__law_frac : PySem.W.codeIn K cd__law_frac "_law_frac" = true)
    (k__law_frac : PySem.W.keepIn K (.ref f__law_frac) = true)
    (a__law_draw : PySem.W.nsIn K mainGlobals "_law_draw" = some (some (.ref f__law_draw)))
    (l__law_draw : K.lookup f__law_draw = some ⟨oc__law_draw, od__law_draw, .func (PySem.W.fnOf "_law_draw" "_law_draw" (defArgs s__law_draw) (defBody s__law_draw) (defScope s__law_draw) .none kV__law_draw dc__law_draw pm__law_draw an__law_draw cd__law_draw ct__law_draw), sl__law_draw⟩)
    (c__law_draw : PySem.W.codeIn K cd__law_draw "_law_draw" = true)
    (k__law_draw : PySem.W.keepIn K (.ref f__law_draw) = true)
    (a__law_ends : PySem.W.nsIn K mainGlobals "_law_ends" = some (some (.ref f__law_ends)))
    (l__law_ends : K.lookup f__law_ends = some ⟨oc__law_ends, od__law_ends, .func (PySem.W.fnOf "_law_ends" "_law_ends" (defArgs s__law_ends) (defBody s__law_ends) (defScope s__law_ends) .none kV__law_ends dc__law_ends pm__law_ends an__law_ends cd__law_ends ct__law_ends), sl__law_ends⟩)
    (c__law_ends : PySem.W.codeIn K cd__law_ends "_law_ends" = true)
    (k__law_ends : PySem.W.keepIn K (.ref f__law_ends) = true)
    (a__law_round : PySem.W.nsIn K mainGlobals "_law_round" = some (some (.ref f__law_round)))
    (l__law_round : K.lookup f__law_round = some ⟨oc__law_round, od__law_round, .func (PySem.W.fnOf "_law_round" "_law_round" (defArgs s__law_round) (defBody s__law_round) (defScope s__law_round) .none kV__law_round dc__law_round pm__law_round an__law_round cd__law_round ct__law_round), sl__law_round⟩)
    (c__law_round : PySem.W.codeIn K cd__law_round "_law_round" = true)
    (k__law_round : PySem.W.keepIn K (.ref f__law_round) = true)
    (a__law_marked : PySem.W.nsIn K mainGlobals "_law_marked" = some (some (.ref f__law_marked)))
    (l__law_marked : K.lookup f__law_marked = some ⟨oc__law_marked, od__law_marked, .func (PySem.W.fnOf "_law_marked" "_law_marked" (defArgs s__law_marked) (defBody s__law_marked) (defScope s__law_marked) .none kV__law_marked dc__law_marked pm__law_marked an__law_marked cd__law_marked ct__law_marked), sl__law_marked⟩)
    (c__law_marked : PySem.W.codeIn K cd__law_marked "_law_marked" = true)
    (k__law_marked : PySem.W.keepIn K (.ref f__law_marked) = true)
    (a_law : PySem.W.nsIn K mainGlobals "law" = some (some (.ref f_law)))
    (l_law : K.lookup f_law = some ⟨oc_law, od_law, .func (PySem.W.fnOf "law" "law" (defArgs s_law) (defBody s_law) (defScope s_law) .none kV_law dc_law pm_law an_law cd_law ct_law), sl_law⟩)
    (c_law : PySem.W.codeIn K cd_law "law" = true)
    (k_law : PySem.W.keepIn K (.ref f_law) = true)
    (z_abs : PySem.W.nsIn K mainGlobals "abs" = some none)
    (z_all : PySem.W.nsIn K mainGlobals "all" = some none)
    (z_any : PySem.W.nsIn K mainGlobals "any" = some none)
    (z_bool : PySem.W.nsIn K mainGlobals "bool" = some none)
    (z_int : PySem.W.nsIn K mainGlobals "int" = some none)
    (z_isinstance : PySem.W.nsIn K mainGlobals "isinstance" = some none)
    (z_len : PySem.W.nsIn K mainGlobals "len" = some none)
    (z_list : PySem.W.nsIn K mainGlobals "list" = some none)
    (z_max : PySem.W.nsIn K mainGlobals "max" = some none)
    (z_min : PySem.W.nsIn K mainGlobals "min" = some none)
    (z_range : PySem.W.nsIn K mainGlobals "range" = some none)
    (z_tuple : PySem.W.nsIn K mainGlobals "tuple" = some none)
    (z_zip : PySem.W.nsIn K mainGlobals "zip" = some none)
    (z_lcm : PySem.W.nsIn K mainGlobals "lcm" = some (some (.builtin "math.lcm"))) :
    ∃ fd : FuncData, Fun K "law" "law" s_law fa fd ∧ (∀ (s : Shared) (u : Value), BindsTo s fd ⟨[u], []⟩ [("_law_script", u)]) ∧
      ∀ (base : Heap) (cdv : Value) (s : Shared) (H : Hp) (a : Addr) (ns : List Int), ns.length ≤ 63 → K.In base → base.Ns mainGlobals mg → Room 8 (PySem.callerA.deeper (PyProof.Rows.envOfC "law" (defScope s_law) s.heap.objs.size fa cdv)) → SqL K H a (ns.map V.int) →
        ∃ t, PSs (cxOf CX0 PL.prog w K mg base N_law "law" (defScope s_law) fa cdv PySem.callerA [] s H E0).nox (defBody s_law) t ∧ t { nx := fun _ _ => False, rt := fun v _ => v = .bl true } (L2.start N_law [.ref a]) H := by
  cases hfa.symm.trans (PySem.W.mg_of X G a_law)
  have Z : Zx mg := {
    z_abs := PySem.W.mg_none_of X G z_abs
    z_all := PySem.W.mg_none_of X G z_all
    z_any := PySem.W.mg_none_of X G z_any
    z_bool := PySem.W.mg_none_of X G z_bool
    z_int := PySem.W.mg_none_of X G z_int
    z_isinstance := PySem.W.mg_none_of X G z_isinstance
    z_len := PySem.W.mg_none_of X G z_len
    z_list := PySem.W.mg_none_of X G z_list
    z_max := PySem.W.mg_none_of X G z_max
    z_min := PySem.W.mg_none_of X G z_min
    z_range := PySem.W.mg_none_of X G z_range
    z_tuple := PySem.W.mg_none_of X G z_tuple
    z_zip := PySem.W.mg_none_of X G z_zip
    z_lcm := PySem.W.mg_of X G z_lcm
  }
  have F_floor_of := fun_mk (st := s_floor_of) l_floor_of c_floor_of k_floor_of
  have F_marks := fun_mk (st := s_marks) l_marks c_marks k_marks
  have F__cell_of := fun_mk (st := s__cell_of) l__cell_of c__cell_of k__cell_of
  have F__whole := fun_mk (st := s__whole) l__whole c__whole k__whole
  have F__string_marks := fun_mk (st := s__string_marks) l__string_marks c__string_marks k__string_marks
  have F__hoop_marks := fun_mk (st := s__hoop_marks) l__hoop_marks c__hoop_marks k__hoop_marks
  have F__square := fun_mk (st := s__square) l__square c__square k__square
  have F__law_cell_at := fun_mk (st := s__law_cell_at) l__law_cell_at c__law_cell_at k__law_cell_at
  have F__law_box := fun_mk (st := s__law_box) l__law_box c__law_box k__law_box
  have F__law_take := fun_mk (st := s__law_take) l__law_take c__law_take k__law_take
  have F__law_same := fun_mk (st := s__law_same) l__law_same c__law_same k__law_same
  have F__law_of := fun_mk (st := s__law_of) l__law_of c__law_of k__law_of
  have F__law_frac := fun_mk (st := s__law_frac) l__law_frac c__law_frac k__law_frac
  have F__law_draw := fun_mk (st := s__law_draw) l__law_draw c__law_draw k__law_draw
  have F__law_ends := fun_mk (st := s__law_ends) l__law_ends c__law_ends k__law_ends
  have F__law_round := fun_mk (st := s__law_round) l__law_round c__law_round k__law_round
  have F__law_marked := fun_mk (st := s__law_marked) l__law_marked c__law_marked k__law_marked
  have F_law := fun_mk (st := s_law) l_law c_law k_law
  refine ⟨_, F_law, fun s u => .of_eq rfl, fun base cdv s H a ns hl X2 G2 hr hS => ?_⟩
  have C_floor_of : Cb PL.prog w K mg base "floor_of" 1 [] _ := cb_mk F_floor_of (PySem.W.mg_of X G a_floor_of) (ok_floor F_floor_of) (fun _ _ _ _ _ _ us hl => match us, hl with | [_], _ => rfl)
  have C__cell_of : Cb PL.prog w K mg base "_cell_of" 2 [] _ := cb_mk F__cell_of (PySem.W.mg_of X G a__cell_of) (ok_cellof C_floor_of F__cell_of) (fun _ _ _ _ _ _ us hl => match us, hl with | [_], _ => rfl)
  have C__square : Cb PL.prog w K mg base "_square" 1 [] _ := cb_mk F__square (PySem.W.mg_of X G a__square) (ok_square F__square) (fun _ _ _ _ _ _ us hl => match us, hl with | [_, _], _ => rfl)
  have C__whole : Cb PL.prog w K mg base "_whole" 1 [] _ := cb_mk F__whole (PySem.W.mg_of X G a__whole) (ok_whole Z F__whole) (fun _ _ _ _ _ _ us hl => match us, hl with | [_], _ => rfl)
  have C__string_marks : Cb PL.prog w K mg base "_string_marks" 2 [] (spF K R_none) := cb_mk (ps := ["stroke", "cell"]) F__string_marks (PySem.W.mg_of X G a__string_marks) no_fn (fun _ _ _ _ _ _ us hl => match us, hl with | [_, _], _ => rfl)
  have C__law_ends : Cb PL.prog w K mg base "_law_ends" 1 [] (spF K R_none) := cb_mk (ps := ["_law_start", "_law_end"]) F__law_ends (PySem.W.mg_of X G a__law_ends) no_fn (fun _ _ _ _ _ _ us hl => match us, hl with | [_, _], _ => rfl)
  have C__hoop_marks : Cb PL.prog w K mg base "_hoop_marks" 2 [] _ := cb_mk F__hoop_marks (PySem.W.mg_of X G a__hoop_marks) (ok_hoop Z C__whole C__square F__hoop_marks) (fun _ _ _ _ _ _ us hl => match us, hl with | [_, _], _ => rfl)
  have O_marks : FnOk PL.prog w K mg base CX0 3 _ _ _ _ := ok_marks Z C__cell_of C__string_marks C__hoop_marks F_marks
  have C_marks : Cb PL.prog w K mg base "marks" 3 [] _ := cb_mk F_marks (PySem.W.mg_of X G a_marks) (O_marks) (fun _ _ _ _ _ _ us hl => match us, hl with | [_, _], _ => rfl)
  have K_marks : Ck PL.prog w K mg base "marks" 3 ["cell", "stroke"] swap2 _ := ck_mk F_marks (PySem.W.mg_of X G a_marks) (O_marks) (fun h => vals_swap2 h) (fun _ _ _ _ _ _ ws hl => match ws, hl with | [_, _], _ => rfl)
  have C__law_cell_at : Cb PL.prog w K mg base "_law_cell_at" 1 [] _ := cb_mk F__law_cell_at (PySem.W.mg_of X G a__law_cell_at) (ok_cell Z F__law_cell_at) (fun _ _ _ _ _ _ us hl => match us, hl with | [_, _], _ => rfl)
  have C__law_box : Cb PL.prog w K mg base "_law_box" 2 [] _ := cb_mk F__law_box (PySem.W.mg_of X G a__law_box) (ok_box Z C__law_cell_at F__law_box) (fun _ _ _ _ _ _ us hl => match us, hl with | [_, _], _ => rfl)
  have C__law_take : Cb PL.prog w K mg base "_law_take" 1 [] _ := cb_mk F__law_take (PySem.W.mg_of X G a__law_take) (ok_take F__law_take) (fun _ _ _ _ _ _ us hl => match us, hl with | [_, _], _ => rfl)
  have C__law_of : Cb PL.prog w K mg base "_law_of" 2 [] _ := cb_mk F__law_of (PySem.W.mg_of X G a__law_of) (ok_of Z C__law_take F__law_of) (fun _ _ _ _ _ _ us hl => match us, hl with | [_, _], _ => rfl)
  have C__law_frac : Cb PL.prog w K mg base "_law_frac" 1 [] _ := cb_mk F__law_frac (PySem.W.mg_of X G a__law_frac) (ok_lfrac Z F__law_frac) (fun _ _ _ _ _ _ us hl => match us, hl with | [_, _], _ => rfl)
  have C__law_same : Cb PL.prog w K mg base "_law_same" 7 [] _ := cb_mk F__law_same (PySem.W.mg_of X G a__law_same) (ok_same Z (PySem.W.mg_of X G a__law_same) F__law_same 7) (fun _ _ _ _ _ _ us hl => match us, hl with | [_, _], _ => rfl)
  have C__law_draw : Cb PL.prog w K mg base "_law_draw" 3 [] _ := cb_mk F__law_draw (PySem.W.mg_of X G a__law_draw) (ok_draw C__law_take C__law_of C__law_frac F__law_draw) (fun _ _ _ _ _ _ us hl => match us, hl with | [_, _], _ => rfl)
  have C__law_round : Cb PL.prog w K mg base "_law_round" 1 [] _ := cb_mk F__law_round (PySem.W.mg_of X G a__law_round) (ok_round Z F__law_round) (fun _ _ _ _ _ _ us hl => match us, hl with | [_, _, _], _ => rfl)
  have C__law_marked : Cb PL.prog w K mg base "_law_marked" 2 [] _ := cb_mk F__law_marked (PySem.W.mg_of X G a__law_marked) (ok_marked Z C__law_round C__law_ends F__law_marked) (fun _ _ _ _ _ _ us hl => match us, hl with | [_, _], _ => rfl)
  exact w_law Z hl hr C__law_box C__law_take C__law_of C__law_draw C__law_marked C__law_same C_marks K_marks hS
end K47
open PySem PySem.W PyProof.Rows
set_option maxHeartbeats 0 in
theorem PySem.Challenge.cw_pegwishes_k47_cells_of_hoops_and_pegs_holds : PySem.Challenge.rw_pegwishes_k47_cells_of_hoops_and_pegs.Holds := by
  w_on; o_law; k_head; (case hw => w_witness2)
  k_fill
  refine Pw.law_end (l := PySem.Challenge.rw_pegwishes_k47_cells_of_hoops_and_pegs) (n := 63) (k := 8) (x := "_law_script") (nm := "law") (qual := "law") (st := K47.s_law) (N := K47.N_law) rfl (by decide) rfl ⟨rfl, by decide, by decide⟩ (fun w h Y => PySem.W.kIn_of Y) K47.sc_law ?F
  case F =>
    intro w mg fa h KX G hmg
    refine' K47.all_mk KX G hmg ?a_floor_of ?l_floor_of ?c_floor_of ?k_floor_of ?a_marks ?l_marks ?c_marks ?k_marks ?a__cell_of ?l__cell_of ?c__cell_of ?k__cell_of ?a__whole ?l__whole ?c__whole ?k__whole ?a__string_marks ?l__string_marks ?c__string_marks ?k__string_marks ?a__hoop_marks ?l__hoop_marks ?c__hoop_marks ?k__hoop_marks ?a__square ?l__square ?c__square ?k__square ?a__law_cell_at ?l__law_cell_at ?c__law_cell_at ?k__law_cell_at ?a__law_box ?l__law_box ?c__law_box ?k__law_box ?a__law_take ?l__law_take ?c__law_take ?k__law_take ?a__law_same ?l__law_same ?c__law_same ?k__law_same ?a__law_of ?l__law_of ?c__law_of ?k__law_of ?a__law_frac ?l__law_frac ?c__law_frac ?k__law_frac ?a__law_draw ?l__law_draw ?c__law_draw ?k__law_draw ?a__law_ends ?l__law_ends ?c__law_ends ?k__law_ends ?a__law_round ?l__law_round ?c__law_round ?k__law_round ?a__law_marked ?l__law_marked ?c__law_marked ?k__law_marked ?a_law ?l_law ?c_law ?k_law ?z_abs ?z_all ?z_any ?z_bool ?z_int ?z_isinstance ?z_len ?z_list ?z_max ?z_min ?z_range ?z_tuple ?z_zip ?z_lcm
    (case a_floor_of => k_is); (case l_floor_of => k_is); (case c_floor_of => k_is); (case k_floor_of => k_is); (case a_marks => k_is); (case l_marks => k_is); (case c_marks => k_is); (case k_marks => k_is); (case a__cell_of => k_is); (case l__cell_of => k_is); (case c__cell_of => k_is); (case k__cell_of => k_is); (case a__whole => k_is); (case l__whole => k_is); (case c__whole => k_is); (case k__whole => k_is); (case a__string_marks => k_is); (case l__string_marks => k_is); (case c__string_marks => k_is); (case k__string_marks => k_is); (case a__hoop_marks => k_is); (case l__hoop_marks => k_is); (case c__hoop_marks => k_is); (case k__hoop_marks => k_is); (case a__square => k_is); (case l__square => k_is); (case c__square => k_is); (case k__square => k_is); (case a__law_cell_at => k_is); (case l__law_cell_at => k_is); (case c__law_cell_at => k_is); (case k__law_cell_at => k_is); (case a__law_box => k_is); (case l__law_box => k_is); (case c__law_box => k_is); (case k__law_box => k_is); (case a__law_take => k_is); (case l__law_take => k_is); (case c__law_take => k_is); (case k__law_take => k_is); (case a__law_same => k_is); (case l__law_same => k_is); (case c__law_same => k_is); (case k__law_same => k_is); (case a__law_of => k_is); (case l__law_of => k_is); (case c__law_of => k_is); (case k__law_of => k_is); (case a__law_frac => k_is); (case l__law_frac => k_is); (case c__law_frac => k_is); (case k__law_frac => k_is); (case a__law_draw => k_is); (case l__law_draw => k_is); (case c__law_draw => k_is); (case k__law_draw => k_is); (case a__law_ends => k_is); (case l__law_ends => k_is); (case c__law_ends => k_is); (case k__law_ends => k_is); (case a__law_round => k_is); (case l__law_round => k_is); (case c__law_round => k_is); (case k__law_round => k_is); (case a__law_marked => k_is); (case l__law_marked => k_is); (case c__law_marked => k_is); (case k__law_marked => k_is); (case a_law => k_is); (case l_law => k_is); (case c_law => k_is); (case k_law => k_is); (case z_abs => k_is); (case z_all => k_is); (case z_any => k_is); (case z_bool => k_is); (case z_int => k_is); (case z_isinstance => k_is); (case z_len => k_is); (case z_list => k_is); (case z_max => k_is); (case z_min => k_is); (case z_range => k_is); (case z_tuple => k_is); (case z_zip => k_is); (case z_lcm => k_is)
