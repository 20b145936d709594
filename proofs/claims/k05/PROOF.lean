import PyProof.Rows.All
import Wide.All
import OpenK.AllK
import Wide.FinOn
import HandS.ForMost
import HandS.ForExc
import HandS.Wide
import HandS.IsInst
import HandS.Gcd
import HandS.Zip
import HandS.TupAny
import HandS.TupLe
import HandS.Defaults
import HandS.Small
import HandS.ExcInit
import KE.KExcIs
import HandS.ExcField
import HandS.Iter
import HandS.Text
import HandS.StrMore
import HandS.Codes
import PyProof.StrBlock2
import HandS.Style
import PyProof.Rows.StrRev
import PyProof.Rows.StrNews2
import PyProof.MeetsStr3
import HandS.Steps
import PyProof.ReprLen
import PySem.Challenge.RW_pegwishes_k05_roots_written
set_option Elab.async false
set_option linter.all false
set_option maxRecDepth 100000
set_option maxHeartbeats 8000000
namespace Pw
open PySem L2

/-! ## data that stands in the heap, some objects set apart -/
abbrev Fg := PySem.W.Frag
mutual
inductive At (K : Fg) (H : Hp) : V → PyData → Prop
  | non : At K H .non .none
  | bl (b : Bool) : At K H (.bl b) (.bool b)
  | int (i : Int) : At K H (.int i) (.int i)
  | str (x : Str) : At K H (.str x) (.str x)
  | lst {a : Addr} {xs : List V} {ds : List PyData} : H a = some (.lst xs) → AtAll K H xs ds → At K H (.ref a) (.list ds)
  | tup {a : Addr} {xs : List V} {ds : List PyData} : SqT K H a xs → AtAll K H xs ds → At K H (.ref a) (.tuple ds)
inductive AtAll (K : Fg) (H : Hp) : List V → List PyData → Prop
  | nil : AtAll K H [] []
  | cons {v : V} {vs : List V} {d : PyData} {ds : List PyData} : At K H v d → AtAll K H vs ds → AtAll K H (v :: vs) (d :: ds)
end
theorem same_t {K : Fg} {H H' : Hp} {a : Addr} {xs : List V} (e : Same H H') (h : SqT K H a xs) : SqT K H' a xs := by
  rcases h with (h | ⟨o, h⟩) | h
  · exact .inl (.inl (e _ _ h))
  · exact .inl (.inr ⟨o, e _ _ h⟩)
  · exact .inr h
mutual
theorem At.mono {K : Fg} {H H' : Hp} (e : Same H H') : ∀ (d : PyData) (v : V), At K H v d → At K H' v d
  | .none, _, .non => .non
  | .bool _, _, .bl _ => .bl _
  | .int _, _, .int _ => .int _
  | .str _, _, .str _ => .str _
  | .list ds, _, .lst h a => .lst (e _ _ h) (AtAll.mono e ds _ a)
  | .tuple ds, _, .tup h a => .tup (same_t e h) (AtAll.mono e ds _ a)
theorem AtAll.mono {K : Fg} {H H' : Hp} (e : Same H H') : ∀ (ds : List PyData) (vs : List V), AtAll K H vs ds → AtAll K H' vs ds
  | [], _, .nil => .nil
  | d :: ds, _, .cons h t => .cons (At.mono e d _ h) (AtAll.mono e ds _ t)
end
mutual
theorem At.dp {K : Fg} {H : Hp} : ∀ (d : PyData) (v : V), At K H v d → Dp K H v d
  | .none, _, .non => .non
  | .bool _, _, .bl _ => .bl _
  | .int _, _, .int _ => .int _
  | .str _, _, .str _ => .str _
  | .list ds, _, .lst h a => .lst (SqL.of h) (AtAll.dp ds _ a)
  | .tuple ds, _, .tup h a => .tup h (AtAll.dp ds _ a)
theorem AtAll.dp {K : Fg} {H : Hp} : ∀ (ds : List PyData) (vs : List V), AtAll K H vs ds → DpAll K H vs ds
  | [], _, .nil => .nil
  | d :: ds, _, .cons h t => .cons (At.dp d _ h) (AtAll.dp ds _ t)
end
theorem AtAll.len {K : Fg} {H : Hp} : ∀ {vs : List V} {ds : List PyData}, AtAll K H vs ds → vs.length = ds.length
  | _, _, .nil => rfl
  | _, _, .cons _ t => congrArg Nat.succ (AtAll.len t)
theorem AtAll.get {K : Fg} {H : Hp} : ∀ {vs : List V} {ds : List PyData} {i : Nat} {d : PyData}, AtAll K H vs ds → ds[i]? = some d → ∃ v, vs[i]? = some v ∧ At K H v d
  | _, _, 0, _, .cons h _, e => ⟨_, rfl, Option.some.inj e ▸ h⟩
  | _, _, i + 1, _, .cons _ t, e => AtAll.get (i := i) t e
theorem AtAll.append {K : Fg} {H : Hp} : ∀ {vs ws : List V} {ds es : List PyData}, AtAll K H vs ds → AtAll K H ws es → AtAll K H (vs ++ ws) (ds ++ es)
  | _, _, _, _, .nil, s => s
  | _, _, _, _, .cons h t, s => .cons h (AtAll.append t s)
theorem AtAll.set {K : Fg} {H : Hp} {v : V} {d : PyData} (h : At K H v d) : ∀ {vs : List V} {ds : List PyData} (i : Nat), AtAll K H vs ds → AtAll K H (vs.set i v) (ds.set i d)
  | _, _, _, .nil => .nil
  | _, _, 0, .cons _ t => .cons h t
  | _, _, i + 1, .cons g t => .cons g (AtAll.set h i t)
theorem AtAll.drop {K : Fg} {H : Hp} : ∀ {vs : List V} {ds : List PyData} (n : Nat), AtAll K H vs ds → AtAll K H (vs.drop n) (ds.drop n)
  | _, _, 0, r => r
  | _, _, _ + 1, .nil => .nil
  | _, _, n + 1, .cons _ t => AtAll.drop n t
theorem AtAll.take {K : Fg} {H : Hp} : ∀ {vs : List V} {ds : List PyData} (n : Nat), AtAll K H vs ds → AtAll K H (vs.take n) (ds.take n)
  | _, _, 0, _ => .nil
  | _, _, _ + 1, .nil => .nil
  | _, _, n + 1, .cons r t => .cons r (AtAll.take n t)
theorem AtAll.ints {K : Fg} {H : Hp} : ∀ {vs : List V} {ns : List Int}, AtAll K H vs (ns.map PyData.int) → vs = ns.map V.int
  | _, [], .nil => rfl
  | _, n :: ns, .cons (.int _) t => congrArg (V.int n :: ·) (AtAll.ints t)
theorem AtAll.bls {K : Fg} {H : Hp} : ∀ {vs : List V} {ns : List Bool}, AtAll K H vs (ns.map PyData.bool) → vs = ns.map V.bl
  | _, [], .nil => rfl
  | _, n :: ns, .cons (.bl _) t => congrArg (V.bl n :: ·) (AtAll.bls t)

def hid (M : List Addr) (H : Hp) : Hp := fun a => if a ∈ M then none else H a
theorem hid_in {M : List Addr} {H : Hp} {a : Addr} (h : a ∈ M) : hid M H a = none := if_pos h
theorem hid_out {M : List Addr} {H : Hp} {a : Addr} (h : a ∉ M) : hid M H a = H a := if_neg h
theorem hid_some {M : List Addr} {H : Hp} {a : Addr} {o : HO} (h : hid M H a = some o) : a ∉ M ∧ H a = some o := by
  by_cases c : a ∈ M
  · rw [hid_in c] at h; cases h
  · rw [hid_out c] at h; exact ⟨c, h⟩
theorem hid_same {M : List Addr} {H : Hp} : Same (hid M H) H := fun _ _ h => (hid_some h).2
theorem hid_upd {M : List Addr} {H : Hp} {p : Addr} {o : HO} (h : p ∈ M) : hid M (upd H p o) = hid M H := by
  funext a
  by_cases c : a ∈ M
  · rw [hid_in c, hid_in c]
  · rw [hid_out c, hid_out c, upd_ne (fun e => c (by rw [e]; exact h))]
theorem hid_sub {M N : List Addr} {H : Hp} (h : ∀ a, a ∈ M → a ∈ N) : Same (hid N H) (hid M H) := fun a o e => by
  obtain ⟨c, e⟩ := hid_some e
  rw [hid_out (fun m => c (h a m))]
  exact e
theorem hid_new {M : List Addr} {H : Hp} {p : Addr} {o : HO} (hp : H p = none) : Same (hid M H) (hid M (upd H p o)) := fun a u e => by
  obtain ⟨c, e⟩ := hid_some e
  rw [hid_out c, upd_ne (ne_of_none e hp)]
  exact e
theorem same_hid {M : List Addr} {H H' : Hp} (h : Same H H') : Same (hid M H) (hid M H') := fun a o e => by
  obtain ⟨c, e⟩ := hid_some e
  rw [hid_out c]
  exact h _ _ e

/-- a value of the logic: data, a list of the store (by its number), the script -/
inductive Dx where
  | d (d : PyData) | loc (k : Nat) | scr (ns : List Int) | exc (cls : Value) (fo : Option (Str × PyData))
/-- an exception at a, held: its class, its dict -/
def exk (cls : Value) (d : Option Addr) (a : Addr) : HO := .ext fun h => ∃ (oe : Obj) (vs : Array Value), h.get? a = some oe ∧ Zc cls d oe ∧ oe.data = .fields vs
/-- an error's own dict -/
inductive XD (K : Fg) (M : List Addr) (H : Hp) : Option Addr → Option (Str × PyData) → Prop
  | none : XD K M H none none
  | one {dx : Addr} {f : Str} {v : V} {y : PyData} : hid M H dx = some (.xd [(f, v)]) → At K (hid M H) v y → XD K M H (some dx) (some (f, y))
theorem XD.up {K : Fg} {M M' : List Addr} {H H' : Hp} {d : Option Addr} {fo : Option (Str × PyData)} (e : Same (hid M H) (hid M' H')) (h : XD K M H d fo) : XD K M' H' d fo := by
  cases h with
  | none => exact .none
  | one h1 h2 => exact .one (e _ _ h1) (At.mono e _ _ h2)
def RX (K : Fg) (M : List Addr) (H : Hp) (v : V) : Dx → Prop
  | .d d => At K (hid M H) v d
  | .loc k => ∃ p, M[k]? = some p ∧ v = .ref p
  | .scr ns => ∃ a, v = .ref a ∧ SqL K (hid M H) a (ns.map V.int)
  | .exc cls fo => ∃ a d, v = .ref a ∧ hid M H a = some (exk cls d a) ∧ XD K M H d fo
theorem RX.mono {K : Fg} {M : List Addr} {H H' : Hp} {v : V} (e : Same (hid M H) (hid M H')) : ∀ {x : Dx}, RX K M H v x → RX K M H' v x
  | .d d, h => At.mono e d v h
  | .loc _, h => h
  | .scr _, ⟨a, h1, h2⟩ => ⟨a, h1, e.seq h2⟩
  | .exc _ _, ⟨a, d, h1, h2, h3⟩ => ⟨a, d, h1, e _ _ h2, h3.up e⟩
abbrev Sto := List (List PyData)
abbrev En := List (Option Dx)
structure So (K : Fg) (M : List Addr) (s : Sto) (H : Hp) : Prop where
  nd : M.Nodup
  len : s.length = M.length
  at_ : ∀ (k : Nat) (p : Addr) (ds : List PyData), M[k]? = some p → s[k]? = some ds → ∃ vs, H p = some (.lst vs) ∧ AtAll K (hid M H) vs ds
theorem So.get {K : Fg} {M : List Addr} {s : Sto} {H : Hp} (h : So K M s H) {k : Nat} {ds : List PyData} (e : s[k]? = some ds) : ∃ p vs, M[k]? = some p ∧ H p = some (.lst vs) ∧ AtAll K (hid M H) vs ds := by
  have hk : k < M.length := by
    rw [← h.len]
    exact (List.getElem?_eq_some_iff.mp e).1
  obtain ⟨vs, h1, h2⟩ := h.at_ k M[k] ds (List.getElem?_eq_getElem hk) e
  exact ⟨M[k], vs, List.getElem?_eq_getElem hk, h1, h2⟩
theorem So.in_ {K : Fg} {M : List Addr} {s : Sto} {H : Hp} (h : So K M s H) {p : Addr} (e : p ∈ M) : ∃ vs, H p = some (.lst vs) := by
  obtain ⟨k, hk, rfl⟩ := List.getElem_of_mem e
  have hs : k < s.length := by rw [h.len]; exact hk
  obtain ⟨vs, h1, _⟩ := h.at_ k _ s[k] (List.getElem?_eq_getElem hk) (List.getElem?_eq_getElem hs)
  exact ⟨vs, h1⟩
theorem So.free {K : Fg} {M : List Addr} {s : Sto} {H : Hp} (h : So K M s H) {p : Addr} (e : H p = none) : p ∉ M := fun m => by
  obtain ⟨vs, q⟩ := h.in_ m
  rw [e] at q
  cases q
/-- a new object beside the store -/
theorem So.new {K : Fg} {M : List Addr} {s : Sto} {H : Hp} {p : Addr} {o : HO} (h : So K M s H) (hp : H p = none) : So K M s (upd H p o) :=
  ⟨h.nd, h.len, fun k q ds e1 e2 => by
    obtain ⟨vs, h1, h2⟩ := h.at_ k q ds e1 e2
    exact ⟨vs, by rw [upd_ne (ne_of_none h1 hp)]; exact h1, AtAll.mono (hid_new hp) ds vs h2⟩⟩
/-- a list of the store is written -/
theorem So.put {K : Fg} {M : List Addr} {s : Sto} {H : Hp} {k : Nat} {p : Addr} {ws : List V} {es : List PyData} (h : So K M s H) (hp : M[k]? = some p) (a : AtAll K (hid M H) ws es) : So K M (s.set k es) (upd H p (.lst ws)) := by
  have hm : p ∈ M := List.mem_of_getElem? hp
  refine ⟨h.nd, by rw [List.length_set]; exact h.len, fun j q ds e1 e2 => ?_⟩
  rw [hid_upd hm]
  by_cases c : j = k
  · subst c
    rw [hp] at e1; cases e1
    have hk : j < s.length := by
      have := (List.getElem?_eq_some_iff.mp hp).1
      rw [h.len]; exact this
    rw [List.getElem?_set_self hk] at e2
    cases e2
    exact ⟨ws, upd_same, a⟩
  · rw [List.getElem?_set_ne (Ne.symm c)] at e2
    obtain ⟨vs, h1, h2⟩ := h.at_ j q ds e1 e2
    have ne : q ≠ p := fun e => by
      subst e
      exact c (nd_ix h.nd e1 hp)
    exact ⟨vs, by rw [upd_ne ne]; exact h1, h2⟩
/-- a new list joins the store -/
theorem So.add {K : Fg} {M : List Addr} {s : Sto} {H : Hp} {p : Addr} {ws : List V} {es : List PyData} (h : So K M s H) (hp : H p = none) (a : AtAll K (hid M H) ws es) : So K (M ++ [p]) (s ++ [es]) (upd H p (.lst ws)) := by
  have hm := h.free hp
  have e0 : Same (hid M H) (hid (M ++ [p]) (upd H p (.lst ws))) := fun b o e => by
    obtain ⟨c, e⟩ := hid_some e
    have nb := ne_of_none e hp
    rw [hid_out (by simp [c, nb]), upd_ne nb]
    exact e
  refine ⟨?_, by simp [h.len], fun j q ds e1 e2 => ?_⟩
  · rw [List.nodup_append]
    exact ⟨h.nd, by simp, fun x hx y hy => by simp at hy; subst hy; exact fun e => hm (e ▸ hx)⟩
  · by_cases c : j < M.length
    · rw [List.getElem?_append_left c] at e1
      rw [List.getElem?_append_left (by rw [h.len]; exact c)] at e2
      obtain ⟨vs, h1, h2⟩ := h.at_ j q ds e1 e2
      exact ⟨vs, by rw [upd_ne (ne_of_none h1 hp)]; exact h1, AtAll.mono e0 ds vs h2⟩
    · have cj : j = M.length := by
        have := (List.getElem?_eq_some_iff.mp e1).1
        simp at this
        omega
      subst cj
      rw [List.getElem?_append_right (Nat.le_refl _), Nat.sub_self] at e1
      rw [List.getElem?_append_right (by rw [h.len]; exact Nat.le_refl _), h.len, Nat.sub_self] at e2
      cases e1; cases e2
      exact ⟨ws, upd_same, AtAll.mono e0 _ _ a⟩
/-- the last lists of the store are let go -/
theorem So.cut {K : Fg} {M N : List Addr} {s t : Sto} {H : Hp} (h : So K (M ++ N) (s ++ t) H) (hl : s.length = M.length) : So K M s H := by
  refine ⟨(List.nodup_append.mp h.nd).1, hl, fun j q ds e1 e2 => ?_⟩
  have hj := (List.getElem?_eq_some_iff.mp e1).1
  obtain ⟨vs, h1, h2⟩ := h.at_ j q ds (by rw [List.getElem?_append_left hj]; exact e1) (by rw [List.getElem?_append_left (by rw [hl]; exact hj)]; exact e2)
  exact ⟨vs, h1, AtAll.mono (hid_sub fun a m => List.mem_append_left _ m) ds vs h2⟩

structure RE (K : Fg) (M : List Addr) (H : Hp) (σ : L2.St) (ρ : En) : Prop where
  len : σ.length = ρ.length
  at_ : ∀ (i : Nat) (x : Dx), ρ[i]? = some (some x) → ∃ v, σ[i]? = some (some v) ∧ RX K M H v x
theorem RE.mono {K : Fg} {M : List Addr} {H H' : Hp} {σ : L2.St} {ρ : En} (e : Same (hid M H) (hid M H')) (h : RE K M H σ ρ) : RE K M H' σ ρ :=
  ⟨h.len, fun i x hx => let ⟨v, h1, h2⟩ := h.at_ i x hx; ⟨v, h1, h2.mono e⟩⟩
theorem RE.set {K : Fg} {M : List Addr} {H : Hp} {σ : L2.St} {ρ : En} {i : Nat} {v : V} {x : Dx} (h : RE K M H σ ρ) (r : RX K M H v x) : RE K M H (σ.set i (some v)) (ρ.set i (some x)) := by
  refine ⟨by simpa using h.len, fun j y hy => ?_⟩
  by_cases c : j = i
  · subst c
    by_cases hj : j < ρ.length
    · rw [List.getElem?_set_self hj] at hy
      cases hy
      exact ⟨v, List.getElem?_set_self (by rw [h.len]; exact hj), r⟩
    · rw [List.getElem?_eq_none (by simpa using hj)] at hy
      cases hy
  · rw [List.getElem?_set_ne (Ne.symm c)] at hy
    obtain ⟨w, h1, h2⟩ := h.at_ j y hy
    exact ⟨w, by rw [List.getElem?_set_ne (Ne.symm c)]; exact h1, h2⟩

/-! ## what an expression gives -/
def Okk (K : Fg) (M : List Addr) (s' : Sto) (x : Dx) (H : Hp) (Q : VK) : Prop := ∀ v H', Same (hid M H) (hid M H') → So K M s' H' → RX K M H' v x → Q v H'
def Ev (K : Fg) (te : TE) (ρ : En) (s : Sto) (x : Dx) (s' : Sto) : Prop := ∀ M σ H, So K M s H → RE K M H σ ρ → ∀ Q : VK, Okk K M s' x H Q → te σ H Q
/-- a new list: it stands behind the store -/
def EvN (K : Fg) (te : TE) (ρ : En) (s : Sto) (ds : List PyData) (s' : Sto) : Prop := ∀ M σ H, So K M s H → RE K M H σ ρ → ∀ Q : VK,
  (∀ p H', H p = none → Same (hid M H) (hid M H') → So K (M ++ [p]) (s' ++ [ds]) H' → So K M s' H' → Q (.ref p) H') → te σ H Q
inductive RXs (K : Fg) (M : List Addr) (H : Hp) : List V → List Dx → Prop
  | nil : RXs K M H [] []
  | cons {v vs x xs} : RX K M H v x → RXs K M H vs xs → RXs K M H (v :: vs) (x :: xs)
theorem RXs.mono {K : Fg} {M : List Addr} {H H' : Hp} (e : Same (hid M H) (hid M H')) : ∀ {vs : List V} {xs : List Dx}, RXs K M H vs xs → RXs K M H' vs xs
  | _, _, .nil => .nil
  | _, _, .cons h t => .cons (h.mono e) (t.mono e)
def Eva (K : Fg) (ta : TA) (ρ : En) (s : Sto) (xs : List Dx) (s' : Sto) : Prop := ∀ M σ H, So K M s H → RE K M H σ ρ → ∀ Q : List V → Hp → Prop,
  (∀ vs H', Same (hid M H) (hid M H') → So K M s' H' → RXs K M H' vs xs → Q vs H') → ta σ H Q
def EvT (K : Fg) (tt : TT) (ρ : En) (s : Sto) (b : Bool) (s' : Sto) : Prop := ∀ M σ H, So K M s H → RE K M H σ ρ → ∀ Q : Bool → Hp → Prop,
  (∀ H', Same (hid M H) (hid M H') → So K M s' H' → Q b H') → tt σ H Q
def Op2 (K : Fg) (r : R2) (x y : Dx) (s : Sto) (z : Dx) (s' : Sto) : Prop := ∀ M H v w, So K M s H → RX K M H v x → RX K M H w y → ∀ Q : VK, Okk K M s' z H Q → r v w H Q
/-- .. with a new list -/
def Op2N (K : Fg) (r : R2) (x y : Dx) (s : Sto) (ds : List PyData) (s' : Sto) : Prop := ∀ M H v w, So K M s H → RX K M H v x → RX K M H w y → ∀ Q : VK,
  (∀ p H', H p = none → Same (hid M H) (hid M H') → So K (M ++ [p]) (s' ++ [ds]) H' → So K M s' H' → Q (.ref p) H') → r v w H Q
def Op1 (K : Fg) (r : V → Hp → VK → Prop) (x : Dx) (s : Sto) (z : Dx) (s' : Sto) : Prop := ∀ M H v, So K M s H → RX K M H v x → ∀ Q : VK, Okk K M s' z H Q → r v H Q
/-- a call of a built-in, by values -/
def OpC (K : Fg) (r : List V → Hp → VK → Prop) (xs : List Dx) (s : Sto) (z : Dx) (s' : Sto) : Prop := ∀ M H vs, So K M s H → RXs K M H vs xs → ∀ Q : VK, Okk K M s' z H Q → r vs H Q

section
variable {K : Fg} {ρ : En} {s s1 s2 s3 : Sto} {x y z : Dx} {xs : List Dx} {ta tb te : TE} {tas : TA} {t u : TT} {r : R2} {b c : Bool} {i j k : Int}
theorem Okk.here {M : List Addr} {H : Hp} {Q : VK} {v : V} (q : Okk K M s x H Q) (S : So K M s H) (h : RX K M H v x) : Q v H := q v H (Same.refl _) S h
theorem Okk.step {M : List Addr} {H H1 : Hp} {Q : VK} (q : Okk K M s x H Q) (e : Same (hid M H) (hid M H1)) : Okk K M s x H1 Q := fun v H2 e2 => q v H2 (e.trans e2)
theorem ev_var {n : Nat} (h : ρ[n]? = some (some x)) : Ev K (tVar n) ρ s x s := fun M σ H S R Q q => by
  obtain ⟨v, h1, h2⟩ := R.at_ n x h
  exact ⟨v, h1, q.here S h2⟩
theorem ev_int : Ev K (tC (.int i)) ρ s (.d (.int i)) s := fun M σ H S R Q q => q.here S (.int i)
theorem ev_bl : Ev K (tC (.bl b)) ρ s (.d (.bool b)) s := fun M σ H S R Q q => q.here S (.bl b)
theorem ev_non : Ev K (tC .non) ρ s (.d .none) s := fun M σ H S R Q q => q.here S .non
theorem ev_str {w : Str} : Ev K (tC (.str w)) ρ s (.d (.str w)) s := fun M σ H S R Q q => q.here S (.str w)
theorem ev_k {v : V} {d : PyData} (h : ∀ H, At K H v d) : Ev K (tC v) ρ s (.d d) s := fun M σ H S R Q q => q.here S (h _)
theorem ev_op (ha : Ev K ta ρ s x s1) (hb : Ev K tb ρ s1 y s2) (hr : Op2 K r x y s2 z s3) : Ev K (tOp r ta tb) ρ s z s3 := fun M σ H S R Q q =>
  ha M σ H S R _ fun v H1 e1 S1 r1 => hb M σ H1 S1 (R.mono e1) _ fun w H2 e2 S2 r2 => hr M H2 v w S2 (r1.mono e2) r2 Q (q.step (e1.trans e2))
theorem evn_op {ds : List PyData} (ha : Ev K ta ρ s x s1) (hb : Ev K tb ρ s1 y s2) (hr : Op2N K r x y s2 ds s3) : EvN K (tOp r ta tb) ρ s ds s3 := fun M σ H S R Q q =>
  ha M σ H S R _ fun v H1 e1 S1 r1 => hb M σ H1 S1 (R.mono e1) _ fun w H2 e2 S2 r2 => hr M H2 v w S2 (r1.mono e2) r2 Q fun p H3 hp e3 S3 =>
    have e := e1.trans e2
    q p H3 (by
      cases hq : H p with
      | none => rfl
      | some o =>
        by_cases c : p ∈ M
        · exact absurd c (S2.free hp)
        · have := hid_some (e p o (by rw [hid_out c]; exact hq))
          rw [hp] at this; cases this.2) (e.trans e3) S3
theorem ev_un {r : V → Hp → VK → Prop} (ha : Ev K ta ρ s x s1) (hr : Op1 K r x s1 z s2) : Ev K (tUn r ta) ρ s z s2 := fun M σ H S R Q q =>
  ha M σ H S R _ fun v H1 e1 S1 r1 => hr M H1 v S1 r1 Q (q.step e1)
theorem ev_cb {r : List V → Hp → VK → Prop} (ha : Eva K tas ρ s xs s1) (hr : OpC K r xs s1 z s2) : Ev K (tCB r tas) ρ s z s2 := fun M σ H S R Q q =>
  ha M σ H S R _ fun v H1 e1 S1 r1 => hr M H1 v S1 r1 Q (q.step e1)
theorem eva_nil : Eva K tNil ρ s [] s := fun M σ H S R Q q => q [] H (Same.refl _) S .nil
theorem eva_cons (ha : Ev K ta ρ s x s1) (hr : Eva K tas ρ s1 xs s2) : Eva K (tCons ta tas) ρ s (x :: xs) s2 := fun M σ H S R Q q =>
  ha M σ H S R _ fun v H1 e1 S1 r1 => hr M σ H1 S1 (R.mono e1) _ fun vs H2 e2 S2 r2 => q _ H2 (e1.trans e2) S2 (.cons (r1.mono e2) r2)
theorem Ev.to {x' : Dx} {s' : Sto} (h : Ev K ta ρ s x s1) (e : x = x') (e2 : s1 = s') : Ev K ta ρ s x' s' := e ▸ e2 ▸ h
theorem Ev.is {x' : Dx} (h : Ev K ta ρ s x s1) (e : x = x') : Ev K ta ρ s x' s1 := e ▸ h
/-- the data of values -/
theorem rxs_data {M : List Addr} {H : Hp} : ∀ {vs : List V} {ds : List PyData}, RXs K M H vs (ds.map Dx.d) → AtAll K (hid M H) vs ds
  | _, [], .nil => .nil
  | _, _ :: _, .cons h t => .cons h (rxs_data t)
theorem so_drop {M : List Addr} {H : Hp} {p : Addr} {ds : List PyData} (S : So K (M ++ [p]) (s ++ [ds]) H) (hl : s.length = M.length) : At K (hid M H) (.ref p) (.list ds) := by
  obtain ⟨vs, h1, h2⟩ := S.at_ M.length p ds (by simp) (by rw [List.getElem?_append_right (by omega)]; simp [hl])
  have hp : p ∉ M := fun m => (List.nodup_append.mp S.nd).2.2 p m p (by simp) rfl
  exact .lst (by rw [hid_out hp]; exact h1) (AtAll.mono (hid_sub fun a m => List.mem_append_left _ m) ds vs h2)
theorem ev_new {ds : List PyData} (h : EvN K te ρ s ds s1) : Ev K te ρ s (.d (.list ds)) s1 := fun M σ H S R Q q =>
  h M σ H S R _ fun p H1 hp e S1 S2 => q _ H1 e S2 (so_drop S1 S2.len)
theorem ev_tup {ds : List PyData} (h : Eva K tas ρ s (ds.map Dx.d) s1) (hl : ds.length ≤ 100000) : Ev K (tTup tas) ρ s (.d (.tuple ds)) s1 := fun M σ H S R Q q =>
  h M σ H S R _ fun vs H1 e1 S1 r1 => by
    have a := rxs_data r1
    refine ⟨by rw [a.len]; exact Nat.le_trans hl (by decide), fun p hp => ?_⟩
    refine q _ _ (e1.trans (hid_new hp)) (S1.new hp) (At.tup (SqT.of ?_) (AtAll.mono (hid_new hp) _ _ a))
    rw [hid_out (S1.free hp)]
    exact upd_same
theorem evn_lst {ds : List PyData} (h : Eva K tas ρ s (ds.map Dx.d) s1) (hl : ds.length ≤ 100000) : EvN K (tLst tas) ρ s ds s1 := fun M σ H S R Q q =>
  h M σ H S R _ fun vs H1 e1 S1 r1 => by
    have a := rxs_data r1
    refine ⟨by rw [a.len]; exact Nat.le_trans hl (by decide), fun p hp => ?_⟩
    refine q p _ ?_ (e1.trans (hid_new hp)) (S1.add hp a) (S1.new hp)
    cases hq : H p with
    | none => rfl
    | some o =>
      have := hid_some (e1 p o (by rw [hid_out (S1.free hp)]; exact hq))
      rw [hp] at this
      cases this.2
theorem et_test (h : Ev K te ρ s (.d (.bool b)) s1) : EvT K (tTest te) ρ s b s1 := fun M σ H S R Q q => h M σ H S R _ fun v H1 e S1 r => by
  cases r
  exact ⟨b, rfl, q H1 e S1⟩
theorem et_B (h : Ev K te ρ s (.d (.bool b)) s1) : EvT K (tB te) ρ s b s1 := fun M σ H S R Q q => h M σ H S R _ fun v H1 e S1 r => by
  cases r
  exact ⟨b, rfl, q H1 e S1⟩
theorem et_not (h : EvT K t ρ s b s1) : EvT K (tNot t) ρ s (!b) s1 := fun M σ H S R Q q => h M σ H S R _ q
theorem et_and (h1 : EvT K t ρ s b s1) (h2 : b = true → EvT K u ρ s1 c s2) (h3 : b = false → s2 = s1) : EvT K (tAnd t u) ρ s (b && c) s2 := fun M σ H S R Q q => h1 M σ H S R _ fun H1 e S1 => by
  cases b with
  | true => exact h2 rfl M σ H1 S1 (R.mono e) Q fun H2 e2 => q H2 (e.trans e2)
  | false => exact q H1 e (h3 rfl ▸ S1)
theorem et_or (h1 : EvT K t ρ s b s1) (h2 : b = false → EvT K u ρ s1 c s2) (h3 : b = true → s2 = s1) : EvT K (tOr t u) ρ s (b || c) s2 := fun M σ H S R Q q => h1 M σ H S R _ fun H1 e S1 => by
  cases b with
  | false => exact h2 rfl M σ H1 S1 (R.mono e) Q fun H2 e2 => q H2 (e.trans e2)
  | true => exact q H1 e (h3 rfl ▸ S1)
theorem EvT.is (h : EvT K t ρ s b s1) (e : b = c) : EvT K t ρ s c s1 := e ▸ h
theorem ev_andV (h1 : Ev K ta ρ s (.d (.bool b)) s1) (h2 : b = true → Ev K tb ρ s1 (.d (.bool c)) s2) (h3 : b = false → s2 = s1) : Ev K (tAndV ta tb) ρ s (.d (.bool (b && c))) s2 := fun M σ H S R Q q => h1 M σ H S R _ fun v H1 e S1 r => by
  cases r
  refine ⟨b, rfl, ?_⟩
  cases b with
  | true => exact h2 rfl M σ H1 S1 (R.mono e) Q (q.step e)
  | false => exact q _ H1 e (h3 rfl ▸ S1) (.bl false)
theorem ev_orV (h1 : Ev K ta ρ s (.d (.bool b)) s1) (h2 : b = false → Ev K tb ρ s1 (.d (.bool c)) s2) (h3 : b = true → s2 = s1) : Ev K (tOrV ta tb) ρ s (.d (.bool (b || c))) s2 := fun M σ H S R Q q => h1 M σ H S R _ fun v H1 e S1 r => by
  cases r
  refine ⟨b, rfl, ?_⟩
  cases b with
  | false => exact h2 rfl M σ H1 S1 (R.mono e) Q (q.step e)
  | true => exact q _ H1 e (h3 rfl ▸ S1) (.bl true)
theorem ev_notV (h : Ev K ta ρ s (.d (.bool b)) s1) : Ev K (tNotV ta) ρ s (.d (.bool (!b))) s1 := fun M σ H S R Q q => h M σ H S R _ fun v H1 e S1 r => by
  cases r
  exact ⟨b, rfl, q _ H1 e S1 (.bl _)⟩
theorem ev_if (h : EvT K t ρ s b s1) (h1 : b = true → Ev K ta ρ s1 x s2) (h2 : b = false → Ev K tb ρ s1 x s2) : Ev K (tIf t ta tb) ρ s x s2 := fun M σ H S R Q q => h M σ H S R _ fun H1 e S1 => by
  cases b with
  | true => exact h1 rfl M σ H1 S1 (R.mono e) Q (q.step e)
  | false => exact h2 rfl M σ H1 S1 (R.mono e) Q (q.step e)

/-! ### operators by values -/
theorem o_I0i {g : Int → Int → Int} : Op2 K (rI0 fun i j => .int (g i j)) (.d (.int i)) (.d (.int j)) s (.d (.int (g i j))) s := fun M H v w S r1 r2 Q q => by
  cases r1; cases r2
  exact ⟨i, j, rfl, rfl, q.here S (.int _)⟩
theorem o_I0b {g : Int → Int → Bool} : Op2 K (rI0 fun i j => .bl (g i j)) (.d (.int i)) (.d (.int j)) s (.d (.bool (g i j))) s := fun M H v w S r1 r2 Q q => by
  cases r1; cases r2
  exact ⟨i, j, rfl, rfl, q.here S (.bl _)⟩
theorem o_I {C : Int → Int → Prop} {g : Int → Int → Int} (hc : C i j) : Op2 K (rI C fun i j => .int (g i j)) (.d (.int i)) (.d (.int j)) s (.d (.int (g i j))) s := fun M H v w S r1 r2 Q q => by
  cases r1; cases r2
  exact ⟨i, j, rfl, rfl, hc, q.here S (.int _)⟩
theorem o_U {g : Int → Int} : Op1 K (rU fun i => .int (g i)) (.d (.int i)) s (.d (.int (g i))) s := fun M H v S r Q q => by
  cases r
  exact ⟨i, rfl, q.here S (.int _)⟩
theorem o_eq {d e : PyData} (h1 : SeqAt.shaped d = true) (h2 : SeqAt.shaped e = true) : Op2 K (rEqD K) (.d d) (.d e) s (.d (.bool (PyData.eqv d e))) s := fun M H v w S r1 r2 Q q =>
  ⟨d, e, At.dp _ _ (At.mono hid_same _ _ r1), At.dp _ _ (At.mono hid_same _ _ r2), h1, h2, q.here S (.bl _)⟩
theorem o_ne {d e : PyData} (h1 : SeqAt.shaped d = true) (h2 : SeqAt.shaped e = true) : Op2 K (rNeD K) (.d d) (.d e) s (.d (.bool (!PyData.eqv d e))) s := fun M H v w S r1 r2 Q q =>
  ⟨d, e, At.dp _ _ (At.mono hid_same _ _ r1), At.dp _ _ (At.mono hid_same _ _ r2), h1, h2, q.here S (.bl _)⟩
theorem at_get {α β : Type} {R : α → β → Prop} {vs : List α} {ds : List β} (hl : vs.length = ds.length) (hg : ∀ (i : Nat) (d : β), ds[i]? = some d → ∃ v, vs[i]? = some v ∧ R v d) {n : Int} {d : β} (h : atI ds n = some d) : ∃ v, atI vs n = some v ∧ R v d := by
  unfold atI at h ⊢
  rw [hl]
  cases e : ixN ds.length n with
  | none => rw [e] at h; cases h
  | some j =>
    rw [e] at h
    exact hg j d h
/-- x[n] -/
theorem o_ixT {ds : List PyData} {d : PyData} (h : atI ds i = some d) : Op2 K (rIx K) (.d (.tuple ds)) (.d (.int i)) s (.d d) s := fun M H v w S r1 r2 Q q => by
  cases r1 with
  | tup h1 h2 =>
    cases r2
    obtain ⟨v, e, r⟩ := at_get h2.len (fun _ _ e => h2.get e) h
    exact .inr (.inl ⟨_, _, i, v, rfl, rfl, same_t hid_same h1, e, q.here S r⟩)
theorem o_ixL {ds : List PyData} {d : PyData} (h : atI ds i = some d) : Op2 K (rIx K) (.d (.list ds)) (.d (.int i)) s (.d d) s := fun M H v w S r1 r2 Q q => by
  cases r1 with
  | lst h1 h2 =>
    cases r2
    obtain ⟨v, e, r⟩ := at_get h2.len (fun _ _ e => h2.get e) h
    exact .inl ⟨_, _, i, v, rfl, rfl, SqL.of (hid_some h1).2, e, q.here S r⟩
theorem o_ixM {k : Nat} {ds : List PyData} {d : PyData} (hk : s[k]? = some ds) (h : atI ds i = some d) : Op2 K (rIx K) (.loc k) (.d (.int i)) s (.d d) s := fun M H v w S r1 r2 Q q => by
  obtain ⟨p, e1, rfl⟩ := r1
  obtain ⟨p', vs, e2, h1, h2⟩ := S.get hk
  rw [e1] at e2; cases e2
  cases r2
  obtain ⟨v, e, r⟩ := at_get h2.len (fun _ _ e => h2.get e) h
  exact .inl ⟨_, _, i, v, rfl, rfl, SqL.of h1, e, q.here S r⟩
theorem o_ixS {ns : List Int} {n : Int} (h : atI ns i = some n) : Op2 K (rIx K) (.scr ns) (.d (.int i)) s (.d (.int n)) s := fun M H v w S r1 r2 Q q => by
  obtain ⟨a, rfl, h1⟩ := r1
  cases r2
  have e : atI (ns.map V.int) i = some (.int n) := by
    obtain ⟨v, e, r⟩ := at_get (R := fun v d => v = V.int d) (vs := ns.map V.int) (by simp) (fun j d e => ⟨_, by rw [List.getElem?_map, e]; rfl, rfl⟩) h
    rw [e, r]
  refine .inl ⟨_, _, i, _, rfl, rfl, ?_, e, q.here S (.int n)⟩
  rcases h1 with (h1 | ⟨o, h1⟩) | h1
  · exact .inl (.inl (hid_some h1).2)
  · exact .inl (.inr ⟨o, (hid_some h1).2⟩)
  · exact .inr h1
end
end Pw
namespace Pw
open PySem L2
section
variable {K : Fg} {ρ : En} {s s1 s2 s3 : Sto} {x y z : Dx} {xs : List Dx} {ta tb te : TE} {tas : TA} {t u : TT} {r r' : R2} {b c : Bool} {i j k : Int} {X : Cx}

/-! ### one rule an operator, whatever the kinds of its operands -/
structure CM (i j : Int) : Prop where
  ok : IntMulOk i j
theorem cm_ok {i j : Int} (h : CM i j) : IntMulOk i j := h.ok
theorem cm_mk {i j : Int} (h : CMul i j) : CM i j := ⟨h.ok⟩
theorem cm_big {i j : Int} {n m : Nat} (h1 : i.natAbs < 2 ^ n) (h2 : j.natAbs < 2 ^ m) (hn : n ≤ 60000000) (hm : m ≤ 60000000) : CM i j := ⟨by
  intro q
  rw [Bool.and_eq_true] at q
  have z2 := q.2
  unfold Builtin.Int.intTooBig at z2
  have z3 := of_decide_eq_true z2
  rw [show bitsLine = 134217728 by decide] at z3
  have a := PyProof.Rows.intBits_le h1
  have b := PyProof.Rows.intBits_le h2
  omega⟩
structure CF (i j : Int) : Prop where
  nz : j ≠ 0
  sm : j.natAbs.log2 < 9000
theorem o_inl {s' : Sto} (h : Op2 K r x y s z s') : Op2 K (fun x y H Q => r x y H Q ∨ r' x y H Q) x y s z s' := fun M H v w S r1 r2 Q q => .inl (h M H v w S r1 r2 Q q)
theorem o_inr {s' : Sto} (h : Op2 K r' x y s z s') : Op2 K (fun x y H Q => r x y H Q ∨ r' x y H Q) x y s z s' := fun M H v w S r1 r2 Q q => .inr (h M H v w S r1 r2 Q q)
def rAddI : R2 := rI0 fun i j => .int (i + j)
def rAddS : R2 := fun x y H Q => ∃ i j, x = .str i ∧ y = .str j ∧ i.length + j.length ≤ sizeLine ∧ Q (.str (i ++ j)) H
def rPlus (K : Fg) : R2 := fun x y H Q => rAddI x y H Q ∨ rAddS x y H Q ∨ rCat x y H Q ∨ rCatA K x y H Q
theorem op_plus : OpR X (binaryOp .Add) (rPlus X.K) := op_add.or (op_add_str.or (op_cat.or op_catA))
def rMulI : R2 := rI CM fun i j => .int (i * j)
theorem op_mulA : OpR X (binaryOp .Mult) rMulI := opI fun _ _ _ _ _ _ _ hc q => PyProof.Rows.mul_int q (cm_ok hc)
def rTimes : R2 := fun x y H Q => rMulI x y H Q ∨ rRep x y H Q
theorem op_times : OpR X (binaryOp .Mult) rTimes := op_mulA.or op_rep
def rFdiv : R2 := rI CF fun i j => .int (i.fdiv j)
theorem op_fdivA : OpR X (binaryOp .FloorDiv) rFdiv := opI fun _ j _ _ _ _ _ hc q => PyProof.Rows.floordiv_int hc.nz q (.inl (PyProof.noPylong_of_log2 hc.sm))
def rMod : R2 := rI (fun _ j => j ≠ 0) fun i j => .int (i.fmod j)
theorem op_modA : OpR X (binaryOp .Mod) rMod := op_modN
def rMinus : R2 := rI0 fun i j => .int (i - j)
theorem op_minus : OpR X (binaryOp .Sub) rMinus := op_sub
def rPow : R2 := rI CPow fun i j => .int (i ^ j.toNat)
theorem op_powA : OpR X (binaryOp .Pow) rPow := op_pow
def rLt : R2 := rI0 fun i j => .bl (decide (i < j))
def rLe : R2 := rI0 fun i j => .bl (decide (i ≤ j))
def rGt : R2 := rI0 fun i j => .bl (decide (j < i))
def rGe : R2 := rI0 fun i j => .bl (decide (j ≤ i))
theorem op_ltA : OpR X (compareOp .Lt) rLt := op_lt
theorem op_leA : OpR X (compareOp .LtE) rLe := op_le
theorem op_gtA : OpR X (compareOp .Gt) rGt := op_gt
theorem op_geA : OpR X (compareOp .GtE) rGe := op_ge
def rNeg : V → Hp → VK → Prop := rU fun i => .int (-i)
theorem un_negA : UnR X (unaryOp .USub) rNeg := un_neg
def rIsN : R2 := fun x y H Q => y = .non ∧ Q (.bl (decide (x = .non))) H
def rNotN : R2 := fun x y H Q => y = .non ∧ Q (.bl (!decide (x = .non))) H
theorem op_isA : OpR X (compareOp .Is) (fun x y H Q => rIsN x y H Q ∨ ∃ a b : Bool, x = .bl a ∧ y = .bl b ∧ Q (.bl (decide (a = b))) H) := op_isN.or op_is_bl
theorem op_isnotA : OpR X (compareOp .IsNot) (fun x y H Q => rNotN x y H Q ∨ ∃ a b : Bool, x = .bl a ∧ y = .bl b ∧ Q (.bl (!decide (a = b))) H) := op_notN.or op_isnot_bl
def rIs : R2 := fun x y H Q => rIsN x y H Q ∨ ∃ a b : Bool, x = .bl a ∧ y = .bl b ∧ Q (.bl (decide (a = b))) H
def rIsnt : R2 := fun x y H Q => rNotN x y H Q ∨ ∃ a b : Bool, x = .bl a ∧ y = .bl b ∧ Q (.bl (!decide (a = b))) H
theorem op_is : OpR X (compareOp .Is) rIs := op_isA
theorem op_isnt : OpR X (compareOp .IsNot) rIsnt := op_isnotA

theorem o_add : Op2 K (rPlus K) (.d (.int i)) (.d (.int j)) s (.d (.int (i + j))) s := fun M H v w S r1 r2 Q q => .inl (o_I0i (g := fun i j => i + j) M H v w S r1 r2 Q q)
theorem o_addS {a b : Str} (h : a.length + b.length ≤ 16000000) : Op2 K (rPlus K) (.d (.str a)) (.d (.str b)) s (.d (.str (a ++ b))) s := fun M H v w S r1 r2 Q q => by
  cases r1; cases r2
  exact .inr (.inl ⟨a, b, rfl, rfl, Nat.le_trans h (by decide), q.here S (.str _)⟩)
theorem o_cat {ds es : List PyData} (h : ds.length + es.length ≤ 1000000) : Op2N K (rPlus K) (.d (.list ds)) (.d (.list es)) s (ds ++ es) s := fun M H v w S r1 r2 Q q => by
  cases r1 with
  | lst h1 a1 =>
    cases r2 with
    | lst h2 a2 =>
      refine .inr (.inr (.inl ⟨_, _, _, _, rfl, rfl, (hid_some h1).2, (hid_some h2).2, ?_, fun p hp => ?_⟩))
      · rw [a1.len, a2.len]; exact Nat.le_trans h (by decide)
      · exact q p _ hp (hid_new hp) (S.add hp (a1.append a2)) (S.new hp)
theorem o_catT {ds es : List PyData} (h : ds.length + es.length ≤ 1000000) : Op2 K (rPlus K) (.d (.tuple ds)) (.d (.tuple es)) s (.d (.tuple (ds ++ es))) s := fun M H v w S r1 r2 Q q => by
  cases r1 with
  | @tup a xs _ h1 a1 =>
    cases r2 with
    | @tup a' ys _ h2 a2 =>
      refine .inr (.inr (.inr ⟨_, _, _, _, rfl, rfl, same_t hid_same h1, same_t hid_same h2, ?_, fun e => ?_, fun e e' => ?_, fun e e' p hp => ?_⟩))
      · rw [a1.len, a2.len]; exact Nat.le_trans h (by decide)
      · subst e
        cases a1
        exact q.here S (At.tup h2 a2)
      · subst e'
        cases a2
        rw [List.append_nil] at q
        exact q.here S (At.tup h1 a1)
      · refine q _ _ (hid_new hp) (S.new hp) (At.tup (SqT.of ?_) (AtAll.mono (hid_new hp) _ _ (a1.append a2)))
        rw [hid_out (S.free hp)]
        exact upd_same
theorem o_mul (h : CM i j) : Op2 K rTimes (.d (.int i)) (.d (.int j)) s (.d (.int (i * j))) s := fun M H v w S r1 r2 Q q => .inl (o_I (C := CM) (g := fun i j => i * j) h M H v w S r1 r2 Q q)
theorem AtAll.rep {K : Fg} {H : Hp} {vs : List V} {ds : List PyData} (a : AtAll K H vs ds) : ∀ n, AtAll K H (List.replicate n vs).flatten (List.replicate n ds).flatten
  | 0 => .nil
  | n + 1 => by
    rw [List.replicate_succ, List.replicate_succ, List.flatten_cons, List.flatten_cons]
    exact a.append (AtAll.rep a n)
theorem o_rep {ds : List PyData} {n : Nat} (h : ds.length * n ≤ 1000000) (h2 : n ≤ 1000000) : Op2N K rTimes (.d (.list ds)) (.d (.int (n : Int))) s (List.replicate n ds).flatten s := fun M H v w S r1 r2 Q q => by
  cases r1 with
  | lst h1 a1 =>
    cases r2
    refine .inr ⟨_, (n : Int), _, rfl, rfl, (hid_some h1).2, by omega, by omega, ?_, fun p hp => ?_⟩
    · rw [a1.len, Int.toNat_natCast]; exact Nat.le_trans h (by decide)
    · rw [Int.toNat_natCast]
      exact q p _ hp (hid_new hp) (S.add hp (a1.rep n)) (S.new hp)
theorem o_fdiv (h : CF i j) : Op2 K rFdiv (.d (.int i)) (.d (.int j)) s (.d (.int (i.fdiv j))) s := o_I h
theorem o_mod (h : j ≠ 0) : Op2 K rMod (.d (.int i)) (.d (.int j)) s (.d (.int (i.fmod j))) s := o_I (C := fun _ j => j ≠ 0) h
theorem o_minus : Op2 K rMinus (.d (.int i)) (.d (.int j)) s (.d (.int (i - j))) s := o_I0i (g := fun i j => i - j)
theorem o_pow (h : CPow i j) : Op2 K rPow (.d (.int i)) (.d (.int j)) s (.d (.int (i ^ j.toNat))) s := o_I h
theorem o_lt : Op2 K rLt (.d (.int i)) (.d (.int j)) s (.d (.bool (decide (i < j)))) s := o_I0b (g := fun i j => decide (i < j))
theorem o_le : Op2 K rLe (.d (.int i)) (.d (.int j)) s (.d (.bool (decide (i ≤ j)))) s := o_I0b (g := fun i j => decide (i ≤ j))
theorem o_gt : Op2 K rGt (.d (.int i)) (.d (.int j)) s (.d (.bool (decide (j < i)))) s := o_I0b (g := fun i j => decide (j < i))
theorem o_ge : Op2 K rGe (.d (.int i)) (.d (.int j)) s (.d (.bool (decide (j ≤ i)))) s := o_I0b (g := fun i j => decide (j ≤ i))
theorem o_neg : Op1 K rNeg (.d (.int i)) s (.d (.int (-i))) s := o_U (g := fun i => -i)
def isNo : PyData → Bool
  | .none => true
  | _ => false
theorem at_non {H : Hp} {v : V} {d : PyData} (h : At K H v d) : decide (v = .non) = isNo d := by
  cases h <;> rfl
theorem o_isN {d : PyData} : Op2 K rIs (.d d) (.d .none) s (.d (.bool (isNo d))) s := fun M H v w S r1 r2 Q q => by
  cases r2
  refine .inl ⟨rfl, ?_⟩
  rw [at_non r1]
  exact q.here S (.bl _)
theorem o_isntN {d : PyData} : Op2 K rIsnt (.d d) (.d .none) s (.d (.bool (!isNo d))) s := fun M H v w S r1 r2 Q q => by
  cases r2
  refine .inl ⟨rfl, ?_⟩
  rw [at_non r1]
  exact q.here S (.bl _)
theorem o_isB {a b : Bool} : Op2 K rIs (.d (.bool a)) (.d (.bool b)) s (.d (.bool (decide (a = b)))) s := fun M H v w S r1 r2 Q q => by
  cases r1; cases r2
  exact .inr ⟨a, b, rfl, rfl, q.here S (.bl _)⟩
theorem o_isntB {a b : Bool} : Op2 K rIsnt (.d (.bool a)) (.d (.bool b)) s (.d (.bool (!decide (a = b)))) s := fun M H v w S r1 r2 Q q => by
  cases r1; cases r2
  exact .inr ⟨a, b, rfl, rfl, q.here S (.bl _)⟩

/-! ### built-ins -/
def rAbs : List V → Hp → VK → Prop := fun xs H Q => ∃ i, xs = [.int i] ∧ Q (.int (if i < 0 then -i else i)) H
theorem cb_abs : CallR X (.builtin "abs") rAbs := call_abs
theorem o_abs : OpC K rAbs [.d (.int i)] s (.d (.int (if i < 0 then -i else i))) s := fun M H vs S r Q q => by
  cases r with
  | cons h t =>
    cases t
    cases h
    exact ⟨i, rfl, q.here S (.int _)⟩
def rInt : List V → Hp → VK → Prop := fun xs H Q => (∃ i, xs = [.int i] ∧ Q (.int i) H) ∨ ∃ k, xs = [.bl k] ∧ Q (.int (if k then 1 else 0)) H
theorem cb_int : CallR X (.type "int") rInt := call_int1
theorem o_intB : OpC K rInt [.d (.bool b)] s (.d (.int (if b then 1 else 0))) s := fun M H vs S r Q q => by
  cases r with
  | cons h t =>
    cases t
    cases h
    exact .inr ⟨b, rfl, q.here S (.int _)⟩
def rMin2 : List V → Hp → VK → Prop := fun xs H Q => ∃ i j, xs = [.int i, .int j] ∧ Q (.int (if j < i then j else i)) H
theorem cb_min2 (hc : X.calm = true) : CallR X (.builtin "min") rMin2 := call_min2 hc
theorem o_min2 : OpC K rMin2 [.d (.int i), .d (.int j)] s (.d (.int (if j < i then j else i))) s := fun M H vs S r Q q => by
  cases r with
  | cons h t =>
    cases t with
    | cons h2 t =>
      cases t
      cases h; cases h2
      exact ⟨i, j, rfl, q.here S (.int _)⟩
def rMax2' : List V → Hp → VK → Prop := fun xs H Q => ∃ i j, xs = [.int i, .int j] ∧ Q (.int (if j > i then j else i)) H
theorem cb_max2 (hc : X.calm = true) : CallR X (.builtin "max") rMax2' := call_max2 hc
theorem o_max2 : OpC K rMax2' [.d (.int i), .d (.int j)] s (.d (.int (if j > i then j else i))) s := fun M H vs S r Q q => by
  cases r with
  | cons h t =>
    cases t with
    | cons h2 t =>
      cases t
      cases h; cases h2
      exact ⟨i, j, rfl, q.here S (.int _)⟩
def rLen (K : Fg) : List V → Hp → VK → Prop := fun xs H Q => ∃ x n, xs = [x] ∧ LenV K x H n ∧ Q (.int (n : Nat)) H
theorem cb_len : CallR X (.builtin "len") (rLen X.K) := call_len
theorem o_lenL {ds : List PyData} : OpC K (rLen K) [.d (.list ds)] s (.d (.int (ds.length : Nat))) s := fun M H vs S r Q q => by
  cases r with
  | cons h t =>
    cases t
    cases h with
    | lst h a => exact ⟨_, _, rfl, .inl ⟨_, SqL.of (hid_some h).2, rfl⟩, by rw [a.len]; exact q.here S (.int _)⟩
theorem o_lenT {ds : List PyData} : OpC K (rLen K) [.d (.tuple ds)] s (.d (.int (ds.length : Nat))) s := fun M H vs S r Q q => by
  cases r with
  | cons h t =>
    cases t
    cases h with
    | tup h a => exact ⟨_, _, rfl, .inr ⟨_, same_t hid_same h, rfl⟩, by rw [a.len]; exact q.here S (.int _)⟩
theorem o_lenS {w : Str} (hw : w.length ≤ 16000000) : OpC K (rLen K) [.d (.str w)] s (.d (.int (w.length : Nat))) s := fun M H vs S r Q q => by
  cases r with
  | cons h t =>
    cases t
    cases h
    exact ⟨_, _, rfl, ⟨Nat.le_trans hw (by decide), rfl⟩, q.here S (.int _)⟩
theorem o_lenM {n : Nat} {ds : List PyData} (hk : s[n]? = some ds) : OpC K (rLen K) [.loc n] s (.d (.int (ds.length : Nat))) s := fun M H vs S r Q q => by
  cases r with
  | cons h t =>
    cases t
    obtain ⟨p, e1, rfl⟩ := h
    obtain ⟨p', ws, e2, h1, h2⟩ := S.get hk
    rw [e1] at e2; cases e2
    exact ⟨_, _, rfl, .inl ⟨_, SqL.of h1, rfl⟩, by rw [h2.len]; exact q.here S (.int _)⟩
theorem o_lenC {ns : List Int} : OpC K (rLen K) [.scr ns] s (.d (.int (ns.length : Nat))) s := fun M H vs S r Q q => by
  cases r with
  | cons h t =>
    cases t
    obtain ⟨a, rfl, h1⟩ := h
    refine ⟨_, _, rfl, .inl ⟨ns.map V.int, ?_, rfl⟩, by rw [List.length_map]; exact q.here S (.int _)⟩
    rcases h1 with (h1 | ⟨o, h1⟩) | h1
    · exact .inl (.inl (hid_some h1).2)
    · exact .inl (.inr ⟨o, (hid_some h1).2⟩)
    · exact .inr h1
theorem cb_all (hc : X.calm = true) : CallR X (.builtin "all") (rAll X.K) := cr_all hc
theorem o_all {bs : List Bool} : OpC K (rAll K) [.d (.list (bs.map PyData.bool))] s (.d (.bool (bs.all id))) s := fun M H vs S r Q q => by
  cases r with
  | cons h t =>
    cases t
    cases h with
    | lst h a =>
      have e := AtAll.bls a
      subst e
      exact ⟨_, bs, rfl, SqL.of (hid_some h).2, q.here S (.bl _)⟩
theorem o_gcd : OpC K rGcd [.d (.int i), .d (.int j)] s (.d (.int ((Nat.gcd i.natAbs j.natAbs : Nat) : Int))) s := fun M H vs S r Q q => by
  cases r with
  | cons h t =>
    cases t with
    | cons h2 t =>
      cases t
      cases h; cases h2
      exact ⟨i, j, rfl, q.here S (.int _)⟩
/-- list(t), list(xs): a new list -/
def rListOf (K : Fg) : List V → Hp → VK → Prop := fun xs H Q => ∃ p ys, xs = [.ref p] ∧ (SqL K H p ys ∨ SqT K H p ys) ∧ ∀ l, H l = none → Q (.ref l) (upd H l (.lst ys))
theorem cb_list : CallR X (.type "list") (rListOf X.K) := call_list_of
def OpCN (K : Fg) (r : List V → Hp → VK → Prop) (xs : List Dx) (s : Sto) (ds : List PyData) (s' : Sto) : Prop := ∀ M H vs, So K M s H → RXs K M H vs xs → ∀ Q : VK,
  (∀ p H', H p = none → Same (hid M H) (hid M H') → So K (M ++ [p]) (s' ++ [ds]) H' → So K M s' H' → Q (.ref p) H') → r vs H Q
theorem evn_cb {r : List V → Hp → VK → Prop} {ds : List PyData} (ha : Eva K tas ρ s xs s1) (hr : OpCN K r xs s1 ds s2) : EvN K (tCB r tas) ρ s ds s2 := fun M σ H S R Q q =>
  ha M σ H S R _ fun v H1 e1 S1 r1 => hr M H1 v S1 r1 Q fun p H2 hp e2 => q p H2 (by
    cases hq : H p with
    | none => rfl
    | some o =>
      have := hid_some (e1 p o (by rw [hid_out (S1.free hp)]; exact hq))
      rw [hp] at this; cases this.2) (e1.trans e2)
theorem o_listT {ds : List PyData} : OpCN K (rListOf K) [.d (.tuple ds)] s ds s := fun M H vs S r Q q => by
  cases r with
  | cons h t =>
    cases t
    cases h with
    | tup h a => exact ⟨_, _, rfl, .inr (same_t hid_same h), fun p hp => q p _ hp (hid_new hp) (S.add hp a) (S.new hp)⟩
theorem o_listL {ds : List PyData} : OpCN K (rListOf K) [.d (.list ds)] s ds s := fun M H vs S r Q q => by
  cases r with
  | cons h t =>
    cases t
    cases h with
    | lst h a => exact ⟨_, _, rfl, .inl (SqL.of (hid_some h).2), fun p hp => q p _ hp (hid_new hp) (S.add hp a) (S.new hp)⟩
def rTupOf (K : Fg) : List V → Hp → VK → Prop := fun xs H Q => ∃ p ys, xs = [.ref p] ∧ ((SqL K H p ys ∧ ∀ l, H l = none → Q (.ref l) (upd H l (.tup ys))) ∨ (SqT K H p ys ∧ Q (.ref p) H))
theorem cb_tup : CallR X (.type "tuple") (rTupOf X.K) := call_tuple_of
theorem o_tupM {n : Nat} {ds : List PyData} (hk : s[n]? = some ds) : OpC K (rTupOf K) [.loc n] s (.d (.tuple ds)) s := fun M H vs S r Q q => by
  cases r with
  | cons h t =>
    cases t
    obtain ⟨p, e1, rfl⟩ := h
    obtain ⟨p', ws, e2, h1, h2⟩ := S.get hk
    rw [e1] at e2; cases e2
    refine ⟨_, _, rfl, .inl ⟨SqL.of h1, fun l hl => ?_⟩⟩
    refine q _ _ (hid_new hl) (S.new hl) (At.tup (SqT.of ?_) (AtAll.mono (hid_new hl) _ _ h2))
    rw [hid_out (S.free hl)]
    exact upd_same

/-! ### isinstance -/
def tyN : PyData → String
  | .none => "NoneType" | .bool _ => "bool" | .int _ => "int" | .str _ => "str" | .list _ => "list" | .tuple _ => "tuple" | .dict _ => "dict"
theorem at_ty {M : List Addr} {H : Hp} {v : V} {d : PyData} (h : At K (hid M H) v d) : TyX K H v (.type (tyN d)) := by
  cases h with
  | non => exact .base .non
  | bl b => exact .base (.bl b)
  | int i => exact .base (.int i)
  | str x => exact .base (.str x)
  | lst h a => exact .base (.lst (hid_some h).2)
  | tup h a =>
    rcases h with (h | ⟨o, h⟩) | ⟨o, its, n, hk, hc, _⟩
    · exact .base (.tup (hid_some h).2)
    · exact .fTuple (hid_some h).2
    · exact .kTuple hk hc
theorem ev_isi {d : PyData} {T : String} (h : Ev K te ρ s (.d d) s1) (e : kitB (tyN d) T = some b) : Ev K (tCB (rIsi K) (tCons te (tCons (tC (.ty T)) tNil))) ρ s (.d (.bool b)) s1 := fun M σ H S R Q q =>
  h M σ H S R _ fun v H1 e1 S1 r1 => ⟨v, .ty T, _, _, b, rfl, .ty T, at_ty r1, kit_ty e, q _ H1 e1 S1 (.bl b)⟩
theorem ev_isi2 {d : PyData} {T U : String} {b1 b2 : Bool} (h : Ev K te ρ s (.d d) s1) (e1 : kitB (tyN d) T = some b1) (e2 : kitB (tyN d) U = some b2) :
    Ev K (tCB (rIsiT K) (tCons te (tCons (tTup (tCons (tC (.ty T)) (tCons (tC (.ty U)) tNil))) tNil))) ρ s (.d (.bool (b1 || b2))) s1 := fun M σ H S R Q q =>
  h M σ H S R _ fun v H1 f1 S1 r1 => ⟨by show 2 ≤ sizeLine; decide, fun p hp => by
    refine ⟨v, p, _, .type (tyN d), [.type T, .type U], b1 || b2, rfl, upd_same, .cons (.ty T) (.cons (.ty U) .nil), at_ty (M := M) (At.mono (hid_new hp) d v r1), ?_, ?_⟩
    · refine kitAny_cons (kit_ty e1) (fun z => ?_) (fun z => by rw [z]; rfl)
      subst z
      refine kitAny_cons (kit_ty e2) (fun z => ?_) (fun z => by rw [z]; rfl)
      rw [z]
      exact kitAny_nil
    · exact q _ _ (f1.trans (hid_new hp)) (S1.new hp) (.bl _)⟩

/-! ### repr of data -/
def rRepr (K : Fg) : List V → Hp → VK → Prop := fun xs H Q => ∃ x d, xs = [x] ∧ Dp K H x d ∧ PyData.showable d = true ∧ PyData.hasDict d = false ∧ d.depth ≤ 60 ∧ d.shown.length ≤ sizeLine ∧ Q (.str d.shown) H
end
end Pw
namespace Pw
open PySem L2
section
variable {K : Fg} {ρ ρ' : En} {s s1 s2 s3 : Sto} {x y z : Dx} {xs : List Dx} {ta tb te : TE} {tas : TA} {t u : TT} {r r' : R2} {b c : Bool} {i j k : Int} {X : Cx}

/-! ## statements: a frame that began with the store's lists M0 in the heap H0; F: what is kept besides -/
abbrev Kp := List (V × PyData)
structure Rl (K : Fg) (M0 : List Addr) (H0 : Hp) (F : Kp) (M : List Addr) (s : Sto) (ρ : En) (σ : L2.St) (H : Hp) : Prop where
  ext : ∃ N, M = M0 ++ N ∧ ∀ p ∈ N, H0 p = none
  same : Same (hid M0 H0) (hid M0 H)
  so : So K M s H
  re : RE K M H σ ρ
  kp : ∀ q ∈ F, At K (hid M H) q.1 q.2
def W (K : Fg) (M0 : List Addr) (H0 : Hp) (F : Kp) (P : L2.St → Hp → Prop) (ρ : En) (s : Sto) : Prop := ∀ M σ H, Rl K M0 H0 F M s ρ σ H → P σ H
variable {M0 M : List Addr} {H0 H H1 : Hp} {F : Kp} {D : Ends} {σ : L2.St} {P : L2.St → Hp → Prop} {tu tw : TS} {n m : Nat}
theorem Rl.sub (h : Rl K M0 H0 F M s ρ σ H) (e : Same (hid M H) (hid M H1)) : Same (hid M0 H0) (hid M0 H1) := fun a o h1 => by
  obtain ⟨N, hM, hN⟩ := h.ext
  have h2 := h.same a o h1
  obtain ⟨c, h3⟩ := hid_some h2
  obtain ⟨_, h0⟩ := hid_some h1
  have c2 : a ∉ M := fun m => by
    rw [hM] at m
    rcases List.mem_append.mp m with m | m
    · exact c m
    · rw [hN a m] at h0; cases h0
  have h4 := e a o (by rw [hid_out c2]; exact h3)
  rw [hid_out c]
  exact (hid_some h4).2
theorem Rl.step (h : Rl K M0 H0 F M s ρ σ H) (e : Same (hid M H) (hid M H1)) (S : So K M s1 H1) : Rl K M0 H0 F M s1 ρ σ H1 :=
  ⟨h.ext, h.sub e, S, h.re.mono e, fun q hq => At.mono e _ _ (h.kp q hq)⟩
theorem Rl.set {v : V} (h : Rl K M0 H0 F M s ρ σ H) (r : RX K M H v x) : Rl K M0 H0 F M s (ρ.set n (some x)) (σ.set n (some v)) H :=
  ⟨h.ext, h.same, h.so, h.re.set r, h.kp⟩
theorem Rl.old (h : Rl K M0 H0 F M s ρ σ H) {p : Addr} (hp : H p = none) : H0 p = none := by
  cases e : H0 p with
  | none => rfl
  | some o =>
    obtain ⟨N, hM, _⟩ := h.ext
    have c : p ∉ M0 := fun m => h.so.free hp (by rw [hM]; exact List.mem_append_left _ m)
    have := h.same p o (by rw [hid_out c]; exact e)
    rw [(hid_some this).2] at hp
    cases hp
theorem RX.up {M' : List Addr} {H' : Hp} {v : V} (e : Same (hid M H) (hid M' H')) (hM : ∀ (k : Nat) p, M[k]? = some p → M'[k]? = some p) : ∀ {x : Dx}, RX K M H v x → RX K M' H' v x
  | .d d, h => At.mono e d v h
  | .loc _, ⟨p, h1, h2⟩ => ⟨p, hM _ p h1, h2⟩
  | .scr _, ⟨a, h1, h2⟩ => ⟨a, h1, e.seq h2⟩
  | .exc _ _, ⟨a, d, h1, h2, h3⟩ => ⟨a, d, h1, e _ _ h2, h3.up e⟩
theorem get_app {α : Type} {M N : List α} (k : Nat) (p : α) (h : M[k]? = some p) : (M ++ N)[k]? = some p := by
  rw [List.getElem?_append_left (List.getElem?_eq_some_iff.mp h).1]
  exact h
/-- a new list joins -/
theorem Rl.add {p : Addr} {ds : List PyData} (h : Rl K M0 H0 F M s ρ σ H) (hp : H p = none) (e : Same (hid M H) (hid M H1)) (S : So K (M ++ [p]) (s1 ++ [ds]) H1) : Rl K M0 H0 F (M ++ [p]) (s1 ++ [ds]) ρ σ H1 := by
  obtain ⟨N, hM, hN⟩ := h.ext
  have e2 : Same (hid M H) (hid (M ++ [p]) H1) := fun a o h1 => by
    obtain ⟨c, h2⟩ := hid_some h1
    rw [hid_out (by simp [c, ne_of_none h2 hp])]
    exact (hid_some (e a o h1)).2
  refine ⟨⟨N ++ [p], by rw [hM, List.append_assoc], fun q hq => ?_⟩, h.sub e, S, ⟨h.re.len, fun i x hx => ?_⟩, fun q hq => At.mono e2 _ _ (h.kp q hq)⟩
  · rcases List.mem_append.mp hq with hq | hq
    · exact hN q hq
    · simp at hq
      subst hq
      exact h.old hp
  · obtain ⟨v, h1, h2⟩ := h.re.at_ i x hx
    exact ⟨v, h1, h2.up e2 fun k p hk => get_app k p hk⟩

/-- what a def hands back -/
def Okr (K : Fg) (M0 : List Addr) (H0 : Hp) (x : Dx) (s' : Sto) (Q : VK) : Prop := ∀ M v H', (∃ N, M = M0 ++ N) → Same (hid M0 H0) (hid M0 H') → So K M s' H' → RX K M H' v x → Q v H'
/-- .. a new list -/
def OkN (K : Fg) (M0 : List Addr) (H0 : Hp) (ds : List PyData) (s' : Sto) (Q : VK) : Prop := ∀ p H', H0 p = none → Same (hid M0 H0) (hid M0 H') → So K (M0 ++ [p]) (s' ++ [ds]) H' → So K M0 s' H' → Q (.ref p) H'
theorem okr_d {Q : VK} {d : PyData} {t : Sto} (q : Okk K M0 s1 (.d d) H0 Q) (hl : s1.length = M0.length) : Okr K M0 H0 (.d d) (s1 ++ t) Q := fun M v H' ⟨N, hM⟩ e S r => by
  subst hM
  exact q v H' e (S.cut hl) (At.mono (hid_sub fun a m => List.mem_append_left _ m) d v r)
theorem okr_any {Q : VK} (q : Okk K M0 s1 x H0 Q) : ∀ v H', Same (hid M0 H0) (hid M0 H') → So K M0 s1 H' → RX K M0 H' v x → Q v H' := q
theorem w_asg (h : Ev K te ρ s x s1) (k : W K M0 H0 F D.nx (ρ.set n (some x)) s1) : W K M0 H0 F (tAsg te (gName n) D) ρ s := fun M σ H R =>
  h M σ H R.so R.re _ fun v H1 e S r => k M _ H1 ((R.step e S).set r)
theorem w_asgN {ds : List PyData} (h : EvN K te ρ s ds s1) (k : W K M0 H0 F D.nx (ρ.set n (some (.loc s1.length))) (s1 ++ [ds])) : W K M0 H0 F (tAsg te (gName n) D) ρ s := fun M σ H R =>
  h M σ H R.so R.re _ fun p H1 hp e S S2 => k _ _ H1 ((R.add hp e S).set ⟨p, by rw [S2.len]; simp, rfl⟩)
theorem w_ret (h : Ev K te ρ s x s1) (q : Okr K M0 H0 x s1 D.rt) : W K M0 H0 F (tRet te D) ρ s := fun M σ H R =>
  h M σ H R.so R.re _ fun v H1 e S r => q M v H1 (let ⟨N, a, _⟩ := R.ext; ⟨N, a⟩) (R.sub e) S r
theorem w_retN {ds : List PyData} (h : EvN K te ρ s ds s1) (hl : s.length = M0.length) (q : OkN K M0 H0 ds s1 D.rt) : W K M0 H0 F (tRet te D) ρ s := fun M σ H R => by
  obtain ⟨N, hM, hN⟩ := id R.ext
  have e : N = [] := by
    have := R.so.len
    rw [hM, List.length_append, hl] at this
    exact List.eq_nil_of_length_eq_zero (by omega)
  subst e
  rw [List.append_nil] at hM
  subst hM
  exact h _ σ H R.so R.re _ fun p H1 hp e S S2 => q p H1 (R.old hp) (R.sub e) S S2
theorem w_if (h : EvT K t ρ s b s1) (h1 : b = true → W K M0 H0 F (tu D) ρ s1) (h2 : b = false → W K M0 H0 F (tw D) ρ s1) : W K M0 H0 F (tIfS t tu tw D) ρ s := fun M σ H R =>
  h M σ H R.so R.re _ fun H1 e S => by
    cases b with
    | true => exact h1 rfl M σ H1 (R.step e S)
    | false => exact h2 rfl M σ H1 (R.step e S)
theorem w_seq (h : W K M0 H0 F (tu { D with nx := tw D }) ρ s) : W K M0 H0 F (tSeq tu tw D) ρ s := h
theorem w_next (h : W K M0 H0 F D.nx ρ s) : W K M0 H0 F (tNext D) ρ s := h
theorem w_drop (h : Ev K te ρ s x s1) (k : W K M0 H0 F D.nx ρ s1) : W K M0 H0 F (tDrop te D) ρ s := fun M σ H R =>
  h M σ H R.so R.re _ fun v H1 e S r => k M _ H1 (R.step e S)
theorem w_aug {ti : TIp} (h0 : ρ[n]? = some (some x)) (h : Ev K te ρ s y s1) (hr : Op2 K ti x y s1 z s2) (k : W K M0 H0 F D.nx (ρ.set n (some z)) s2) : W K M0 H0 F (tAug n te ti D) ρ s := fun M σ H R => by
  obtain ⟨v, h1, h2⟩ := R.re.at_ n x h0
  exact ⟨v, h1, h M σ H R.so R.re _ fun w H1 e S r => hr M H1 v w S (h2.mono e) r _ fun u H2 e2 S2 r2 => k M _ H2 ((R.step (e.trans e2) S2).set r2)⟩
/-- a, b = e1, e2 (no tuple) -/
theorem w_par (h : Eva K tas ρ s [x, y] s1) (k : W K M0 H0 F D.nx ((ρ.set n (some x)).set m (some y)) s1) : W K M0 H0 F (tPar n m tas D) ρ s := fun M σ H R =>
  h M σ H R.so R.re _ fun vs H1 e S r => by
    cases r with
    | cons h1 r =>
      cases r with
      | cons h2 r =>
        cases r
        exact ⟨_, _, rfl, k M _ H1 (((R.step e S).set h1).set h2)⟩
/-- a, b = t -/
theorem w_tup2 {d1 d2 : PyData} (h : Ev K te ρ s (.d (.tuple [d1, d2])) s1) (k : W K M0 H0 F D.nx ((ρ.set n (some (.d d1))).set m (some (.d d2))) s1) : W K M0 H0 F (tAsg te (gTup K 2 (gCons (gName n) (gCons (gName m) gNil))) D) ρ s := fun M σ H R =>
  h M σ H R.so R.re _ fun v H1 e S r => by
    cases r with
    | tup h1 a =>
      cases a with
      | cons a1 a =>
        cases a with
        | cons a2 a =>
          cases a
          exact ⟨_, _, rfl, same_t hid_same h1, rfl, _, _, rfl, _, _, rfl, rfl, k M _ H1 (((R.step e S).set (x := .d d1) a1).set (x := .d d2) a2)⟩
theorem w_tup3 {o : Nat} {d1 d2 d3 : PyData} (h : Ev K te ρ s (.d (.tuple [d1, d2, d3])) s1) (k : W K M0 H0 F D.nx (((ρ.set n (some (.d d1))).set m (some (.d d2))).set o (some (.d d3))) s1) : W K M0 H0 F (tAsg te (gTup K 3 (gCons (gName n) (gCons (gName m) (gCons (gName o) gNil)))) D) ρ s := fun M σ H R =>
  h M σ H R.so R.re _ fun v H1 e S r => by
    cases r with
    | tup h1 a =>
      cases a with
      | cons a1 a =>
        cases a with
        | cons a2 a =>
          cases a with
          | cons a3 a =>
            cases a
            exact ⟨_, _, rfl, same_t hid_same h1, rfl, _, _, rfl, _, _, rfl, _, _, rfl, rfl, k M _ H1 ((((R.step e S).set (x := .d d1) a1).set (x := .d d2) a2).set (x := .d d3) a3)⟩
/-- l[j] = e, l a list of the store -/
theorem w_setI {tl tj : TE} {d : PyData} {ds : List PyData} {l : Nat} {jn : Nat} (hv : Ev K te ρ s (.d d) s1) (hl : Ev K tl ρ s1 (.loc l) s1) (hj : Ev K tj ρ s1 (.d (.int j)) s1) (hd : s1[l]? = some ds) (hi : ixN ds.length j = some jn)
    (k : W K M0 H0 F D.nx ρ (s1.set l (ds.set jn d))) : W K M0 H0 F (tAsg te (gSub tl tj rSetL) D) ρ s := fun M σ H R =>
  hv M σ H R.so R.re _ fun v H1 e1 S1 r1 => hl M σ H1 S1 (R.re.mono e1) _ fun w H2 e2 S2 r2 => hj M σ H2 S2 (R.re.mono (e1.trans e2)) _ fun w3 H3 e3 S3 r3 => by
    obtain ⟨p, hp, rfl⟩ := r2
    cases r3
    obtain ⟨p', vs, hp', h1, h2⟩ := S3.get hd
    rw [hp] at hp'; cases hp'
    have hm : p ∈ M := List.mem_of_getElem? hp
    refine ⟨p, vs, j, jn, rfl, rfl, h1, by rw [h2.len]; exact hi, ?_⟩
    have e := (e1.trans e2).trans e3
    refine k M σ _ (R.step ?_ (S3.put hp (AtAll.set (At.mono (e2.trans e3) _ _ r1) jn h2)))
    rw [hid_upd hm]
    exact e
/-- l.append(e), l a list of the store -/
theorem w_app {tl : TE} {ta : TA} {d : PyData} {ds : List PyData} {l : Nat} (hl : Ev K tl ρ s (.loc l) s) (hv : Eva K ta ρ s [.d d] s1) (hd : s1[l]? = some ds) (hz : ds.length < 1000000)
    (k : W K M0 H0 F D.nx ρ (s1.set l (ds ++ [d]))) (hs : ∃ ds0, s[l]? = some ds0) : W K M0 H0 F (tDrop (tBM K "list" rAppend tl ta) D) ρ s := fun M σ H R =>
  hl M σ H R.so R.re _ fun w H1 e1 S1 r1 => by
    obtain ⟨p, hp, rfl⟩ := r1
    obtain ⟨ds0, hs⟩ := hs
    obtain ⟨p0, vs0, hp0, g1, _⟩ := S1.get hs
    rw [hp] at hp0; cases hp0
    refine ⟨.inl ⟨rfl, vs0, SqL.of g1⟩, hv M σ H1 S1 (R.re.mono e1) _ fun vs H2 e2 S2 r2 => ?_⟩
    cases r2 with
    | cons a r2 =>
      cases r2
      obtain ⟨p', ws, hp', h1, h2⟩ := S2.get hd
      rw [hp] at hp'; cases hp'
      refine ⟨p, ws, _, rfl, rfl, h1, by rw [h2.len]; exact Nat.lt_of_lt_of_le hz (by decide), ?_⟩
      refine k M σ _ (R.step ?_ (S2.put hp (h2.append (.cons a .nil))))
      rw [hid_upd (List.mem_of_getElem? hp)]
      exact e1.trans e2

/-- less is known -/
theorem w_weak (h : W K M0 H0 F P ρ' s) (hl : ρ'.length = ρ.length) (hw : ∀ (i : Nat) x, ρ'[i]? = some (some x) → ρ[i]? = some (some x)) : W K M0 H0 F P ρ s := fun M σ H R =>
  h M σ H ⟨R.ext, R.same, R.so, ⟨R.re.len.trans hl.symm, fun i x hx => R.re.at_ i x (hw i x hx)⟩, R.kp⟩
def leq : En → En → Bool
  | [], [] => true
  | none :: l, _ :: m => leq l m
  | _, _ => false
/-- the store's last list is no more written: it is data from here on -/
def noLoc (k : Nat) : En → Prop
  | [] => True
  | some (.loc j) :: r => j ≠ k ∧ noLoc k r
  | _ :: r => noLoc k r
theorem noLoc_at {k : Nat} : ∀ {ρ : En}, noLoc k ρ → ∀ (i j : Nat), ρ[i]? = some (some (.loc j)) → j ≠ k
  | some (.loc j) :: r, h, 0, j', e => by
    cases e
    exact h.1
  | some (.loc j) :: r, h, i + 1, j', e => noLoc_at (ρ := r) h.2 i j' e
  | some (.d _) :: r, h, i + 1, j', e => noLoc_at (ρ := r) h i j' e
  | some (.scr _) :: r, h, i + 1, j', e => noLoc_at (ρ := r) h i j' e
  | some (.exc _ _) :: r, h, i + 1, j', e => noLoc_at (ρ := r) h i j' e
  | none :: r, h, i + 1, j', e => noLoc_at (ρ := r) h i j' e
  | some (.d _) :: r, h, 0, j', e => by cases e
  | some (.scr _) :: r, h, 0, j', e => by cases e
  | some (.exc _ _) :: r, h, 0, j', e => by cases e
  | none :: r, h, 0, j', e => by cases e
theorem Rl.cut {p : Addr} {ds : List PyData} (R : Rl K M0 H0 F (M ++ [p]) (s ++ [ds]) ρ σ H) (hM : M0.length ≤ M.length) (hρ : noLoc M.length ρ) : Rl K M0 H0 F M s ρ σ H := by
  obtain ⟨N, e, hN⟩ := R.ext
  have hsl : s.length = M.length := by
    have := R.so.len
    simp at this
    exact this
  have hNe : ∃ N', M = M0 ++ N' ∧ ∀ p ∈ N', H0 p = none := by
    have e1 : M = (M0 ++ N).dropLast := by rw [← e, List.dropLast_concat]
    have n0 : N ≠ [] := fun z => by
      subst z
      have := congrArg List.length e
      simp at this
      omega
    refine ⟨N.dropLast, by rw [e1, List.dropLast_append_of_ne_nil n0], fun q hq => hN q (List.dropLast_subset N hq)⟩
  have sub : Same (hid (M ++ [p]) H) (hid M H) := hid_sub fun a m => List.mem_append_left _ m
  refine ⟨hNe, R.same, R.so.cut hsl, ⟨R.re.len, fun i x hx => ?_⟩, fun q hq => At.mono sub _ _ (R.kp q hq)⟩
  obtain ⟨v, h1, h2⟩ := R.re.at_ i x hx
  refine ⟨v, h1, ?_⟩
  cases x with
  | d d => exact At.mono sub d v h2
  | scr ns => obtain ⟨a, h3, h4⟩ := h2; exact ⟨a, h3, sub.seq h4⟩
  | exc cls fo => obtain ⟨a, d, h3, h4, h5⟩ := h2; exact ⟨a, d, h3, sub _ _ h4, h5.up sub⟩
  | loc k =>
    obtain ⟨q, h3, h4⟩ := h2
    refine ⟨q, ?_, h4⟩
    have ne := noLoc_at hρ i k hx
    have hk := (List.getElem?_eq_some_iff.mp h3).1
    simp at hk
    rw [List.getElem?_append_left (by omega)] at h3
    exact h3
theorem w_cut {ds : List PyData} (k : W K M0 H0 F P ρ' s) (hM : M0.length ≤ s.length) (hρ : noLoc s.length ρ') (hl : ρ'.length = ρ.length) (hw : ∀ (i : Nat) x, ρ'[i]? = some (some x) → ρ[i]? = some (some x)) : W K M0 H0 F P ρ (s ++ [ds]) := w_weak (fun M σ H R => by
  have hl := R.so.len
  simp at hl
  have hne : M ≠ [] := fun z => by subst z; simp at hl
  obtain ⟨M', p, rfl⟩ : ∃ M' p, M = M' ++ [p] := ⟨M.dropLast, M.getLast hne, (List.dropLast_concat_getLast hne).symm⟩
  simp at hl
  exact k M' σ H (R.cut (by omega) (by rw [← hl]; exact hρ))) hl hw
theorem w_freeze {ds : List PyData} (hn : ρ[n]? = some (some (.loc s.length))) (k : W K M0 H0 F P (ρ.set n (some (.d (.list ds)))) s) (hM : M0.length ≤ s.length) (hρ : noLoc s.length (ρ.set n (some (.d (.list ds))))) : W K M0 H0 F P ρ (s ++ [ds]) := fun M σ H R => by
  have hl := R.so.len
  simp at hl
  have hne : M ≠ [] := fun z => by subst z; simp at hl
  obtain ⟨M', p, rfl⟩ : ∃ M' p, M = M' ++ [p] := ⟨M.dropLast, M.getLast hne, (List.dropLast_concat_getLast hne).symm⟩
  simp at hl
  obtain ⟨v, h1, q, h2, rfl⟩ := R.re.at_ n _ hn
  have hq : q = p := by
    rw [hl] at h2
    simp at h2
    exact h2.symm
  subst hq
  obtain ⟨vs, g1, g2⟩ := R.so.at_ M'.length q ds (by simp) (by rw [← hl]; simp)
  -- ρ with the slot forgotten, then set anew
  have R0 : Rl K M0 H0 F (M' ++ [q]) (s ++ [ds]) (ρ.set n none) σ H := ⟨R.ext, R.same, R.so, ⟨by simpa using R.re.len, fun i x hx => by
    by_cases c : i = n
    · subst c
      by_cases hj : i < ρ.length
      · rw [List.getElem?_set_self hj] at hx; cases hx
      · rw [List.getElem?_eq_none (by simpa using hj)] at hx; cases hx
    · rw [List.getElem?_set_ne (Ne.symm c)] at hx
      exact R.re.at_ i x hx⟩, R.kp⟩
  have nl : ∀ {l : En} {n : Nat} {d : PyData} {k : Nat}, noLoc k (l.set n (some (.d d))) → noLoc k (l.set n none) := fun {l} => by
    induction l with
    | nil => intro n d k h; exact h
    | cons a l ih =>
      intro n d k h
      cases n with
      | zero => exact h
      | succ n =>
        cases a with
        | none => exact ih (n := n) (d := d) h
        | some a =>
          cases a with
          | d _ => exact ih (n := n) (d := d) h
          | scr _ => exact ih (n := n) (d := d) h
          | exc _ _ => exact ih (n := n) (d := d) h
          | loc j => exact ⟨h.1, ih (n := n) (d := d) h.2⟩
  have R1 := R0.cut (by omega) (by rw [← hl]; exact nl hρ)
  have hqM : q ∉ M' := fun m => (List.nodup_append.mp R.so.nd).2.2 q m q (by simp) rfl
  have a : RX K M' H (.ref q) (.d (.list ds)) := .lst (by rw [hid_out hqM]; exact g1) (AtAll.mono (hid_sub fun a m => List.mem_append_left _ m) ds vs g2)
  have R2 := R1.set (n := n) a
  rw [List.set_set] at R2
  have es : σ.set n (some (.ref q)) = σ := by
    refine List.ext_getElem? fun i => ?_
    by_cases c : n = i
    · subst c
      rw [List.getElem?_set_self (List.getElem?_eq_some_iff.mp h1).1, h1]
    · rw [List.getElem?_set_ne c]
  rw [es] at R2
  exact k M' σ H R2

/-! ### loops -/
theorem Rl.more {v : V} {d : PyData} (R : Rl K M0 H0 F M s ρ σ H) (r : At K (hid M H) v d) : Rl K M0 H0 ((v, d) :: F) M s ρ σ H := ⟨R.ext, R.same, R.so, R.re, fun q hq => by
  rcases List.mem_cons.mp hq with rfl | hq
  · exact r
  · exact R.kp q hq⟩
theorem Rl.less {q : V × PyData} (R : Rl K M0 H0 (q :: F) M s ρ σ H) : Rl K M0 H0 F M s ρ σ H := ⟨R.ext, R.same, R.so, R.re, fun p hp => R.kp p (List.mem_cons_of_mem _ hp)⟩
theorem w_less {q : V × PyData} (h : W K M0 H0 F P ρ s) : W K M0 H0 (q :: F) P ρ s := fun M σ H R => h M σ H R.less
/-- for x in xs, xs data -/
theorem w_forL {tl : TE} {ds : List PyData} {tb : TS} (h : Ev K tl ρ s (.d (.list ds)) s1) (I : Nat → En → Sto → Prop) (h0 : I 0 ρ s1)
    (hs : ∀ v (i : Nat) d ρ' s' (N : L2.St → Hp → Prop), ds[i]? = some d → I i ρ' s' → (∀ ρ2 s2, I (i + 1) ρ2 s2 → W K M0 H0 ((v, .list ds) :: F) N ρ2 s2) → W K M0 H0 ((v, .list ds) :: F) (tb { D with nx := N, ct := N, bk := D.nx }) (ρ'.set n (some (.d d))) s')
    (hd : ∀ ρ' s', I ds.length ρ' s' → W K M0 H0 F D.nx ρ' s') : W K M0 H0 F (tFor (iList K tl) (gName n) tb D) ρ s := fun M σ H R => by
  refine h M σ H R.so R.re _ fun v H1 e S r => ?_
  replace R := (R.step e S).more r
  clear r S e
  generalize H1 = H at R ⊢
  have hv := R.kp _ (List.mem_cons_self ..)
  have hv0 : At K (hid M H) v (.list ds) := hv
  cases hv0 with
  | @lst a xs _ ha hxs =>
    refine ⟨a, rfl, ⟨xs, SqL.of (hid_some ha).2⟩, fun i m σ H => m = ds.length - i ∧ i ≤ ds.length ∧ ∃ M s ρ, Rl K M0 H0 ((.ref a, .list ds) :: F) M s ρ σ H ∧ I i ρ s, ⟨_, rfl, Nat.zero_le _, M, _, _, R, h0⟩, ?_⟩
    rintro i m σ H ⟨rfl, hi, M, s, ρ, R, hI⟩
    have hv := R.kp _ (List.mem_cons_self ..)
    have hv0 : At K (hid M H) (.ref a) (.list ds) := hv
    cases hv0 with
    | @lst _ xs _ ha hxs =>
      have hS : SqL K H a xs := SqL.of (hid_some ha).2
      by_cases c : i < ds.length
      · obtain ⟨w, hw, rw_⟩ := hxs.get (List.getElem?_eq_getElem c)
        refine .inr ⟨⟨xs, w, hS, hw⟩, fun σ H => ∃ M s ρ, Rl K M0 H0 ((.ref a, .list ds) :: F) M s ρ σ H ∧ I (i + 1) ρ s, fun σ' H' ⟨M, s, ρ, R, hI⟩ => ⟨ds.length - (i + 1), by omega, rfl, by omega, M, s, ρ, R, hI⟩, fun x H' ⟨e, hx⟩ => ?_⟩
        subst e
        have ex : x = w := Option.some.inj ((hx xs hS).symm.trans hw)
        subst ex
        exact hs (.ref a) i _ ρ s _ (List.getElem?_eq_getElem c) hI (fun ρ2 s2 h2 M σ H R => ⟨M, s2, ρ2, R, h2⟩) M _ _ (R.set (x := .d ds[i]) rw_)
      · have e : i = ds.length := by omega
        subst e
        exact .inl ⟨⟨xs, hS, by rw [hxs.len]; exact Nat.le_refl _⟩, hd ρ s hI M σ H R.less⟩
/-- for k in range(n) -/
theorem w_forR {ta : TA} {tb : TS} {c : Nat} (h : Eva K ta ρ s [.d (.int (c : Int))] s1) (hc : c < 2 ^ 60) (I : Nat → En → Sto → Prop) (h0 : I 0 ρ s1)
    (hs : ∀ (i : Nat) ρ' s' (N : L2.St → Hp → Prop), i < c → I i ρ' s' → (∀ ρ2 s2, I (i + 1) ρ2 s2 → W K M0 H0 F N ρ2 s2) → W K M0 H0 F (tb { D with nx := N, ct := N, bk := D.nx }) (ρ'.set n (some (.d (.int (i : Int))))) s')
    (hd : ∀ ρ' s', I c ρ' s' → W K M0 H0 F D.nx ρ' s') : W K M0 H0 F (tFor (iRng1 ta) (gName n) tb D) ρ s := fun M σ H R => by
  refine h M σ H R.so R.re _ fun vs H1 e S r => ?_
  cases r with
  | cons r1 r =>
    cases r
    cases r1
    refine ⟨(c : Int), rfl, by omega, by omega, ?_⟩
    rw [Int.toNat_natCast]
    refine ⟨fun i m σ H => m = c - i ∧ i ≤ c ∧ ∃ M s ρ, Rl K M0 H0 F M s ρ σ H ∧ I i ρ s, ⟨_, rfl, Nat.zero_le _, M, _, _, R.step e S, h0⟩, ?_⟩
    rintro i m σ H ⟨rfl, hi, M, s, ρ, R, hI⟩
    by_cases cc : i < c
    · refine .inr ⟨cc, fun σ H => ∃ M s ρ, Rl K M0 H0 F M s ρ σ H ∧ I (i + 1) ρ s, fun σ' H' ⟨M, s, ρ, R, hI⟩ => ⟨c - (i + 1), by omega, rfl, by omega, M, s, ρ, R, hI⟩, fun x H' ⟨e, hx⟩ => ?_⟩
      subst e
      subst hx
      rw [Int.zero_add]
      exact hs i ρ s _ cc hI (fun ρ2 s2 h2 M σ H R => ⟨M, s2, ρ2, R, h2⟩) M _ _ (R.set (x := .d (.int (i : Int))) (.int _))
    · have e : i = c := by omega
      subst e
      exact .inl ⟨Nat.le_refl _, hd ρ s hI M σ H R⟩
theorem w_while {tc : TT} {tb : TS} (I : Nat → En → Sto → Prop) (h0 : ∃ m, I m ρ s)
    (hs : ∀ m ρ' s', I m ρ' s' → ∃ b s2, EvT K tc ρ' s' b s2 ∧ (b = true → ∀ N : L2.St → Hp → Prop, (∀ m' ρ2 s3, m' < m → I m' ρ2 s3 → W K M0 H0 F N ρ2 s3) → W K M0 H0 F (tb { D with nx := N, ct := N, bk := D.nx }) ρ' s2) ∧ (b = false → W K M0 H0 F D.nx ρ' s2)) :
    W K M0 H0 F (tWhile tc tb D) ρ s := fun M σ H R => by
  obtain ⟨m, hm⟩ := h0
  refine ⟨fun m σ H => ∃ M s ρ, Rl K M0 H0 F M s ρ σ H ∧ I m ρ s, ⟨m, M, s, ρ, R, hm⟩, ?_⟩
  rintro m σ H ⟨M, s, ρ, R, hI⟩
  obtain ⟨b, s2, hT, h1, h2⟩ := hs m ρ s hI
  refine hT M σ H R.so R.re _ fun H1 e S => ?_
  cases b with
  | true => exact ⟨fun σ H => ∃ m', m' < m ∧ ∃ M s ρ, Rl K M0 H0 F M s ρ σ H ∧ I m' ρ s, fun σ' H' h => h, h1 rfl _ (fun m' ρ2 s3 hlt h3 M σ H R => ⟨m', hlt, M, s3, ρ2, R, h3⟩) M σ H1 (R.step e S)⟩
  | false => exact h2 rfl M σ H1 (R.step e S)
end
end Pw
namespace Pw
open PySem L2
section
variable {K : Fg} {ρ ρ' : En} {s s1 s2 s3 : Sto} {x y z : Dx} {xs ys zs : List Dx} {ta tb te : TE} {tas tks : TA} {t u : TT} {r r' : R2} {b c : Bool} {i j k : Int} {X : Cx} {n m : Nat}

/-! ## calls of defs -/
abbrev Gr := List Dx → Sto → Dx → Sto → Prop
abbrev GrN := List Dx → Sto → List PyData → Sto → Prop
def spF (K : Fg) (R : Gr) : Sp := fun vs H Q _ => ∃ M xs s x s', R xs s x s' ∧ So K M s H ∧ RXs K M H vs xs ∧ Okk K M s' x H Q
def spN (K : Fg) (R : GrN) : Sp := fun vs H Q _ => ∃ M xs s ds s', R xs s ds s' ∧ So K M s H ∧ RXs K M H vs xs ∧
  ∀ p H', H p = none → Same (hid M H) (hid M H') → So K (M ++ [p]) (s' ++ [ds]) H' → So K M s' H' → Q (.ref p) H'
theorem RXs.len {M : List Addr} {H : Hp} : ∀ {vs : List V} {xs : List Dx}, RXs K M H vs xs → vs.length = xs.length
  | _, _, .nil => rfl
  | _, _, .cons _ t => congrArg Nat.succ t.len
theorem RXs.append {M : List Addr} {H : Hp} : ∀ {vs ws : List V} {xs ys : List Dx}, RXs K M H vs xs → RXs K M H ws ys → RXs K M H (vs ++ ws) (xs ++ ys)
  | _, _, _, _, .nil, s => s
  | _, _, _, _, .cons h t, s => .cons h (t.append s)
theorem spF_len {R : Gr} {l : Nat} (h : ∀ xs s x s', R xs s x s' → xs.length = l) : ∀ vs H Q E, spF K R vs H Q E → vs.length = l := fun vs H Q E ⟨_, _, _, _, _, hR, _, hr, _⟩ => hr.len.trans (h _ _ _ _ hR)
theorem spN_len {R : GrN} {l : Nat} (h : ∀ xs s x s', R xs s x s' → xs.length = l) : ∀ vs H Q E, spN K R vs H Q E → vs.length = l := fun vs H Q E ⟨_, _, _, _, _, hR, _, hr, _⟩ => hr.len.trans (h _ _ _ _ hR)
theorem ev_call {R : Gr} {E : XK} (ha : Eva K tas ρ s xs s1) (hR : R xs s1 z s2) : Ev K (tCall (spF K R) [] E tas) ρ s z s2 := fun M σ H S Re Q q =>
  ha M σ H S Re _ fun vs H1 e1 S1 r1 => ⟨M, xs, s1, z, s2, hR, S1, by rw [List.append_nil]; exact r1, q.step e1⟩
/-- .. with a default -/
theorem ev_callD {R : Gr} {E : XK} {dvs : List V} (ha : Eva K tas ρ s xs s1) (hd : ∀ M H, RXs K M H dvs ys) (hR : R (xs ++ ys) s1 z s2) : Ev K (tCall (spF K R) dvs E tas) ρ s z s2 := fun M σ H S Re Q q =>
  ha M σ H S Re _ fun vs H1 e1 S1 r1 => ⟨M, _, s1, z, s2, hR, S1, r1.append (hd M H1), q.step e1⟩
theorem evn_call {R : GrN} {E : XK} {ds : List PyData} (ha : Eva K tas ρ s xs s1) (hR : R xs s1 ds s2) : EvN K (tCall (spN K R) [] E tas) ρ s ds s2 := fun M σ H S Re Q q =>
  ha M σ H S Re _ fun vs H1 e1 S1 r1 => ⟨M, xs, s1, ds, s2, hR, S1, by rw [List.append_nil]; exact r1, fun p H2 hp e2 => q p H2 (by
    cases hq : H p with
    | none => rfl
    | some o =>
      have := hid_some (e1 p o (by rw [hid_out (S1.free hp)]; exact hq))
      rw [hp] at this; cases this.2) (e1.trans e2)⟩
/-- f(k = v, ..) by keywords alone -/
theorem ev_callK {R : Gr} {E : XK} {gV : List V → List V → List V} {l : Nat} (hk : Eva K tks ρ s ys s1) (hl : ys.length = l) (hg : ∀ M H zs, RXs K M H zs ys → RXs K M H (gV [] zs) xs) (hR : R xs s1 z s2) :
    Ev K (tCallN 0 l (spF K R) gV E tNil tks) ρ s z s2 := fun M σ H S Re Q q =>
  hk M σ H S Re _ fun zs H1 e1 S1 r1 => ⟨rfl, r1.len.trans hl, M, xs, s1, z, s2, hR, S1, hg M H1 zs r1, q.step e1⟩
section
variable {CX : CXT} {l kk : Nat} {f : Addr} {fd : FuncData} {ps ks : List Str} {sp : Sp} {E : XK} {fx : Str} {p pos : Pos} {kws : List Keyword} {tk : TA} {g : List Value → List Value → List Value} {gV : List V → List V → List V}
theorem pe_kw (G : FnOk X.prog X.w X.K X.mg X.base CX kk f fd ps sp) (hr : Room kk X.A) (hg : Gl X fx) (hm : X.mg fx = some (.ref f)) (hk : PySem.W.keepIn X.K (.ref f) = true) (hb : KBn X.K fd ps 0 ks g gV) (hx : Passes CX X E) (hkw : PK X kws tk)
    (hall : (backToKw pos (keywordEach kws X.env)).all (·.1.isSome) = true := by rfl)
    (hks : (backToKw pos (keywordEach kws X.env)).filterMap (·.1) = ks := by rfl)
    (hdb : (fx == ("__debug__" : Str)) = false := by decide)
    (hpl : ((backTo pos (starEach [] X.env)).any (·.1) || (backToKw pos (keywordEach kws X.env)).any (·.1.isNone)) = false := by rfl) :
    PE X (.Call (.Name fx p) [] kws pos) (tCallN 0 ks.length sp gV E tNil tk) := ⟨fun pins s σ H Q I h => by
  refine wpAny_Call_Name_kw (ld_glob I hg hm ?_ hdb)
  refine PySem.W.callWith_KW0 (h₀ := X.base) I.ok.mod.kin hk hall ?_ hpl
  refine thn (hkw.run pos pins s σ H _ I h) fun ws s2 ⟨zs, H2, I2, rz, l1, l2, q2⟩ => ⟨I2.kIn, ?_⟩
  rw [hks]
  exact run_fnN G hr hb hx I2 (us := []) (vs := []) .nil rz rfl l2 q2⟩
end
/-- a def without defaults, called by keywords alone -/
theorem kb_of {qual nm : Str} {st : Stmt} {f : Addr} {fd : FuncData} {ps ks : List Str} {g : {α : Type} → List α → List α} (G : Fun K nm qual st f fd)
    (hrel : ∀ {zs : List V} {ws : List Value}, zs.length = ks.length → Vals zs ws → Vals (g zs) (g ws))
    (h : ∀ (kV doc pm : Value) (an : Option Addr) (cdv ct : Value) (ws : List Value), ws.length = ks.length → bindArgs (PySem.W.fnOf nm qual (defArgs st) (defBody st) (defScope st) .none kV doc pm an cdv ct) ⟨[], ks.zip ws⟩ = pure (ps.zip (g ws)))
    (hd : ∀ {zs : List V} {ws : List Value}, zs.length ≠ ks.length → Vals zs ws → Vals (g zs) (g ws)) : KBn K fd ps 0 ks (fun _ ws => g ws) (fun _ zs => g zs) := by
  obtain ⟨oc, od, kV, doc, pm, an, cdv, ct, osl, rfl, lk, hcd⟩ := G.ex
  refine ⟨fun s us ws X l1 l2 => ?_, fun {vs us zs ws} _ r => ?_⟩
  · have e : us = [] := List.eq_nil_of_length_eq_zero l1
    subst e
    exact .of_eq (h kV doc pm an cdv ct ws l2)
  · by_cases c : zs.length = ks.length
    · exact hrel c r
    · exact hd c r

/-! ## comprehensions -/
theorem lc_any {J : It} {N : Nat} {g : TG} {tt : TT} {te : TE} {vs : List Nat} {σ : L2.St} {H1 : Hp} {A : Addr} {Qd : Hp → Prop} (Pv : Nat → Hp → Prop) (h0 : Pv 0 (upd H1 A (.lst [])))
    (hgo : ∀ i H, i < N → Pv i H → J.go i H) (hst : ∀ H, Pv N H → J.stop N H)
    (hs : ∀ i x H H', i < N → Pv i H → J.yld i H x H' → g x (wipe σ vs) H' fun σ2 H2 => wipe σ2 vs = wipe σ vs ∧ tt σ2 H2 fun b H3 =>
      if b = true then te σ2 H3 fun y H4 => ∃ acc, H4 A = some (.lst acc) ∧ acc.length < sizeLine ∧ Pv (i + 1) (upd H4 A (.lst (acc ++ [y]))) else Pv (i + 1) H3) (hd : ∀ H, Pv N H → Qd H) :
    ∃ Wf : Nat → Nat → Hp → Prop, (∃ m, Wf 0 m (upd H1 A (.lst []))) ∧ ∀ i m H, Wf i m H →
      (J.stop i H ∧ Qd H) ∨ (J.go i H ∧ ∃ Nx : Hp → Prop, (∀ H', Nx H' → ∃ m', m' < m ∧ Wf (i + 1) m' H') ∧ ∀ x H', J.yld i H x H' → g x (wipe σ vs) H' fun σ2 H2 => wipe σ2 vs = wipe σ vs ∧ tt σ2 H2 fun b H3 =>
        if b = true then te σ2 H3 fun y H4 => ∃ acc, H4 A = some (.lst acc) ∧ acc.length < sizeLine ∧ Nx (upd H4 A (.lst (acc ++ [y]))) else Nx H3) := by
  refine ⟨fun i m H => m = N - i ∧ i ≤ N ∧ Pv i H, ⟨N, by simp, Nat.zero_le _, h0⟩, ?_⟩
  rintro i m H ⟨rfl, hi, hp⟩
  by_cases c : i < N
  · exact .inr ⟨hgo i H c hp, Pv (i + 1), fun H' q => ⟨N - (i + 1), by omega, rfl, c, q⟩, fun x H' y => hs i x H H' c hp y⟩
  · have e : i = N := by omega
    subst e
    exact .inl ⟨hst H hp, hd H hp⟩
/-- what holds between two items: the new list at A stands behind the store -/
structure Lc (K : Fg) (M : List Addr) (H1 : Hp) (S : Nat → Sto) (es : List PyData) (A : Addr) (σ : L2.St) (ρ : En) (src : List (V × PyData)) (i : Nat) (H : Hp) : Prop where
  so : So K (M ++ [A]) (S i ++ [es.take i]) H
  sm : Same (hid M H1) (hid M H)
  re : RE K (M ++ [A]) H σ ρ
  sr : ∀ q ∈ src, At K (hid (M ++ [A]) H) q.1 q.2
variable {M : List Addr} {H H1 H2 : Hp} {S : Nat → Sto} {es ds : List PyData} {A : Addr} {σ : L2.St} {src : List (V × PyData)} {tl : TE}
theorem Lc.start (hS : So K M (S 0) H1) (hR : RE K M H1 σ ρ) (hs : ∀ q ∈ src, At K (hid M H1) q.1 q.2) (hA : H1 A = none) : Lc K M H1 S es A σ ρ src 0 (upd H1 A (.lst [])) := by
  have e0 : Same (hid M H1) (hid (M ++ [A]) (upd H1 A (.lst []))) := fun a o h => by
    obtain ⟨c, h⟩ := hid_some h
    have ne := ne_of_none h hA
    rw [hid_out (by simp [c, ne]), upd_ne ne]
    exact h
  refine ⟨by rw [List.take_zero]; exact hS.add hA .nil, hid_new hA, ⟨hR.len, fun i x hx => ?_⟩, fun q hq => At.mono e0 _ _ (hs q hq)⟩
  obtain ⟨v, h1, h2⟩ := hR.at_ i x hx
  exact ⟨v, h1, h2.up e0 fun k p hk => get_app k p hk⟩
theorem Lc.item {i : Nat} {e : PyData} {v : V} (L : Lc K M H1 S es A σ ρ src i H) (hA : H1 A = none) (he : es[i]? = some e) (e2 : Same (hid (M ++ [A]) H) (hid (M ++ [A]) H2)) (hS : So K (M ++ [A]) (S (i + 1) ++ [es.take i]) H2) (r : RX K (M ++ [A]) H2 v (.d e)) (hz : es.length ≤ 1000000) :
    ∃ acc, H2 A = some (.lst acc) ∧ acc.length < sizeLine ∧ Lc K M H1 S es A σ ρ src (i + 1) (upd H2 A (.lst (acc ++ [v]))) := by
  have hsl : (S (i + 1)).length = M.length := by
    have := hS.len
    simp at this
    exact this
  have gM : (M ++ [A])[M.length]? = some A := by simp
  obtain ⟨acc, h1, h2⟩ := hS.at_ M.length A (es.take i) gM (by rw [← hsl]; simp)
  have hi : i < es.length := (List.getElem?_eq_some_iff.mp he).1
  refine ⟨acc, h1, ?_, ?_⟩
  · rw [h2.len, List.length_take]
    exact Nat.lt_of_le_of_lt (Nat.le_trans (Nat.min_le_right _ _) hz) (by decide)
  · have hAm : A ∈ M ++ [A] := by simp
    have ht : es.take (i + 1) = es.take i ++ [e] := by rw [List.take_add_one, he]; rfl
    have e3 : hid (M ++ [A]) (upd H2 A (.lst (acc ++ [v]))) = hid (M ++ [A]) H2 := hid_upd hAm
    refine ⟨?_, ?_, ?_, ?_⟩
    · have q := hS.put gM (h2.append (.cons r .nil))
      rw [← hsl, List.set_append_right _ _ (Nat.le_refl _), Nat.sub_self] at q
      rw [ht]
      exact q
    · intro a o h
      obtain ⟨c, h'⟩ := hid_some (L.sm a o h)
      have ne : a ≠ A := ne_of_none (hid_some h).2 hA
      have := e2 a o (by rw [hid_out (by simp [c, ne])]; exact h')
      rw [hid_out c, upd_ne ne]
      exact (hid_some this).2
    · refine L.re.mono ?_
      rw [e3]
      exact e2
    · intro q hq
      rw [e3]
      exact At.mono e2 _ _ (L.sr q hq)
theorem Lc.done {N : Nat} {Q : VK} (L : Lc K M H1 S es A σ ρ src N H) (hA : H1 A = none) (hN : es.length = N) (e0 : Same (hid M H2) (hid M H1)) (hA2 : H2 A = none)
    (q : ∀ p H', H2 p = none → Same (hid M H2) (hid M H') → So K (M ++ [p]) (S N ++ [es]) H' → So K M (S N) H' → Q (.ref p) H') : Q (.ref A) H := by
  have e : es.take N = es := by rw [← hN]; exact List.take_length
  have h := L.so
  rw [e] at h
  have hl := h.len
  simp at hl
  exact q A H hA2 (e0.trans L.sm) h (h.cut hl)
theorem wipe1 {σ : L2.St} {n : Nat} {v : V} : wipe ((wipe σ [n]).set n (some v)) [n] = wipe σ [n] := by
  show ((σ.set n none).set n (some v)).set n none = σ.set n none
  rw [List.set_set, List.set_set]
theorem wipe1s {σ : L2.St} {n : Nat} {v : V} : (wipe σ [n]).set n (some v) = σ.set n (some v) := by
  show (σ.set n none).set n (some v) = _
  rw [List.set_set]
theorem back_none (e1 : Same (hid M H) (hid M H1)) (hS : So K M s H1) (hA : H1 A = none) : H A = none := by
  cases hq : H A with
  | none => rfl
  | some o =>
    have := hid_some (e1 A o (by rw [hid_out (hS.free hA)]; exact hq))
    rw [hA] at this; cases this.2
/-- [e for x in xs], xs a list -/
theorem evn_lcL (h : Ev K tl ρ s (.d (.list ds)) (S 0)) (hl : es.length = ds.length) (hz : es.length ≤ 1000000)
    (he : ∀ (i : Nat) d e, ds[i]? = some d → es[i]? = some e → Ev K te (ρ.set n (some (.d d))) (S i ++ [es.take i]) (.d e) (S (i + 1) ++ [es.take i])) : EvN K (tLc (iList K tl) (gName n) tYes te [n]) ρ s es (S ds.length) := fun M σ H So0 Re Q q => by
  refine h M σ H So0 Re _ fun v H1 e1 S1 r1 => ?_
  have r0 : At K (hid M H1) v (.list ds) := r1
  cases r0 with
  | @lst a vs _ ha hvs =>
    refine ⟨a, rfl, ⟨vs, SqL.of (hid_some ha).2⟩, fun A hA => ?_⟩
    have src : ∀ {i H}, Lc K M H1 S es A σ ρ [(.ref a, .list ds)] i H → ∃ vs, SqL K H a vs ∧ AtAll K (hid (M ++ [A]) H) vs ds := fun {i H} L => by
      have := L.sr _ (List.mem_cons_self ..)
      have h2 : At K (hid (M ++ [A]) H) (.ref a) (.list ds) := this
      cases h2 with
      | lst h3 h4 => exact ⟨_, SqL.of (hid_some h3).2, h4⟩
    refine lc_any (J := Itl K a) (N := ds.length) (Lc K M H1 S es A σ ρ [(.ref a, .list ds)]) (Lc.start S1 (Re.mono e1) (fun q hq => ?_) hA) (fun i H hi L => ?_) (fun H L => ?_) (fun i x H H' hi L hy => ?_) (fun H L => L.done hA hl e1 (back_none e1 S1 hA) q)
    · simp at hq
      subst hq
      exact r1
    · obtain ⟨vs, h1, h2⟩ := src L
      obtain ⟨w, hw, _⟩ := h2.get (List.getElem?_eq_getElem hi)
      exact ⟨vs, w, h1, hw⟩
    · obtain ⟨vs, h1, h2⟩ := src L
      exact ⟨vs, h1, by rw [h2.len]; exact Nat.le_refl _⟩
    · obtain ⟨e, hx⟩ := hy
      subst e
      obtain ⟨vs, h1, h2⟩ := src L
      obtain ⟨w, hw, rw_⟩ := h2.get (List.getElem?_eq_getElem hi)
      have ex : x = w := Option.some.inj ((hx vs h1).symm.trans hw)
      subst ex
      refine ⟨wipe1, ?_⟩
      unfold tYes
      dsimp only
      rw [if_pos rfl, wipe1s]
      have hie : i < es.length := by rw [hl]; exact hi
      refine he i _ _ (List.getElem?_eq_getElem hi) (List.getElem?_eq_getElem hie) (M ++ [A]) _ _ L.so (L.re.set (x := .d _) rw_) _ fun y H4 e4 S4 r4 => ?_
      exact L.item hA (List.getElem?_eq_getElem hie) e4 S4 r4 hz
/-- xs a tuple -/
theorem evn_lcT (h : Ev K tl ρ s (.d (.tuple ds)) (S 0)) (hl : es.length = ds.length) (hz : es.length ≤ 1000000)
    (he : ∀ (i : Nat) d e, ds[i]? = some d → es[i]? = some e → Ev K te (ρ.set n (some (.d d))) (S i ++ [es.take i]) (.d e) (S (i + 1) ++ [es.take i])) : EvN K (tLc (iTup K tl) (gName n) tYes te [n]) ρ s es (S ds.length) := fun M σ H So0 Re Q q => by
  refine h M σ H So0 Re _ fun v H1 e1 S1 r1 => ?_
  have r0 : At K (hid M H1) v (.tuple ds) := r1
  cases r0 with
  | @tup a vs _ ha hvs =>
    refine ⟨a, rfl, ⟨vs, same_t hid_same ha⟩, fun A hA => ?_⟩
    have src : ∀ {i H}, Lc K M H1 S es A σ ρ [(.ref a, .tuple ds)] i H → ∃ vs, SqT K H a vs ∧ AtAll K (hid (M ++ [A]) H) vs ds := fun {i H} L => by
      have := L.sr _ (List.mem_cons_self ..)
      have h2 : At K (hid (M ++ [A]) H) (.ref a) (.tuple ds) := this
      cases h2 with
      | tup h3 h4 => exact ⟨_, same_t hid_same h3, h4⟩
    refine lc_any (J := Itt K a) (N := ds.length) (Lc K M H1 S es A σ ρ [(.ref a, .tuple ds)]) (Lc.start S1 (Re.mono e1) (fun q hq => ?_) hA) (fun i H hi L => ?_) (fun H L => ?_) (fun i x H H' hi L hy => ?_) (fun H L => L.done hA hl e1 (back_none e1 S1 hA) q)
    · simp at hq
      subst hq
      exact r1
    · obtain ⟨vs, h1, h2⟩ := src L
      obtain ⟨w, hw, _⟩ := h2.get (List.getElem?_eq_getElem hi)
      exact ⟨vs, w, h1, hw⟩
    · obtain ⟨vs, h1, h2⟩ := src L
      exact ⟨vs, h1, by rw [h2.len]; exact Nat.le_refl _⟩
    · obtain ⟨e, hx⟩ := hy
      subst e
      obtain ⟨vs, h1, h2⟩ := src L
      obtain ⟨w, hw, rw_⟩ := h2.get (List.getElem?_eq_getElem hi)
      have ex : x = w := Option.some.inj ((hx vs h1).symm.trans hw)
      subst ex
      refine ⟨wipe1, ?_⟩
      unfold tYes
      dsimp only
      rw [if_pos rfl, wipe1s]
      have hie : i < es.length := by rw [hl]; exact hi
      refine he i _ _ (List.getElem?_eq_getElem hi) (List.getElem?_eq_getElem hie) (M ++ [A]) _ _ L.so (L.re.set (x := .d _) rw_) _ fun y H4 e4 S4 r4 => ?_
      exact L.item hA (List.getElem?_eq_getElem hie) e4 S4 r4 hz
theorem wipe2 {σ : L2.St} {n m : Nat} {v w : V} : wipe (((wipe σ [n, m]).set n (some v)).set m (some w)) [n, m] = wipe σ [n, m] := by
  show (((((σ.set m none).set n none).set n (some v)).set m (some w)).set m none).set n none = (σ.set m none).set n none
  refine List.ext_getElem? fun i => ?_
  simp only [List.getElem?_set, List.length_set]
  split <;> split <;> simp_all
theorem wipe2s {σ : L2.St} {n m : Nat} {v w : V} : ((wipe σ [n, m]).set n (some v)).set m (some w) = (σ.set n (some v)).set m (some w) := by
  show ((((σ.set m none).set n none).set n (some v)).set m (some w)) = _
  refine List.ext_getElem? fun i => ?_
  simp only [List.getElem?_set, List.length_set]
  split <;> split <;> simp_all
/-- [e for x, y in zip(xs, ys)]: two lists, or two tuples, of one length -/
theorem evn_lcZ {ta tb : TE} {fs : List PyData} {w : List PyData → PyData} (hw : w = PyData.list ∨ w = PyData.tuple) (h : Eva K (tCons ta (tCons tb tNil)) ρ s [.d (w ds), .d (w fs)] (S 0)) (hf : fs.length = ds.length) (hl : es.length = ds.length) (hz : es.length ≤ 1000000)
    (he : ∀ (i : Nat) d f e, ds[i]? = some d → fs[i]? = some f → es[i]? = some e → Ev K te ((ρ.set n (some (.d d))).set m (some (.d f))) (S i ++ [es.take i]) (.d e) (S (i + 1) ++ [es.take i])) :
    EvN K (tLc (RZ.iZipA K (tCons ta (tCons tb tNil))) (gTup K 2 (gCons (gName n) (gCons (gName m) gNil))) tYes te [n, m]) ρ s es (S ds.length) := fun M σ H So0 Re Q q => by
  unfold tLc RZ.iZipA
  refine h M σ H So0 Re _ fun vs H1 e1 S1 r1 => ?_
  cases r1 with
  | cons ra r1 =>
    cases r1 with
    | cons rb r1 =>
      cases r1
      -- the turn, once the pair is there
      have turn : ∀ {a b A T : Addr} {x y : V} {i : Nat} {H : Hp} {us ws : List V}, H1 A = none → (hi : i < ds.length) → Lc K M H1 S es A σ ρ [(.ref a, w ds), (.ref b, w fs)] i H → H T = none → AtAll K (hid (M ++ [A]) H) us ds → AtAll K (hid (M ++ [A]) H) ws fs → us[i]? = some x → ws[i]? = some y →
          gTup K 2 (gCons (gName n) (gCons (gName m) gNil)) (.ref T) (wipe σ [n, m]) (upd H T (.tup [x, y])) fun σ2 H2 => wipe σ2 [n, m] = wipe σ [n, m] ∧ tYes σ2 H2 fun bb H3 =>
            if bb = true then te σ2 H3 fun y H4 => ∃ acc, H4 A = some (.lst acc) ∧ acc.length < sizeLine ∧ Lc K M H1 S es A σ ρ [(.ref a, w ds), (.ref b, w fs)] (i + 1) (upd H4 A (.lst (acc ++ [y]))) else Lc K M H1 S es A σ ρ [(.ref a, w ds), (.ref b, w fs)] (i + 1) H3 := by
        intro a b A T x y i H us ws hA hi L hT au aw hx hy
        obtain ⟨x', hx', rx⟩ := au.get (List.getElem?_eq_getElem hi)
        have hif : i < fs.length := by rw [hf]; exact hi
        obtain ⟨y', hy', ry⟩ := aw.get (List.getElem?_eq_getElem hif)
        rw [hx] at hx'; cases hx'
        rw [hy] at hy'; cases hy'
        have hie : i < es.length := by rw [hl]; exact hi
        refine ⟨T, [x, y], rfl, SqT.of upd_same, rfl, x, [y], rfl, y, [], rfl, rfl, wipe2, ?_⟩
        unfold tYes
        dsimp only
        rw [if_pos rfl, wipe2s]
        have eT : Same (hid (M ++ [A]) H) (hid (M ++ [A]) (upd H T (.tup [x, y]))) := hid_new hT
        refine he i _ _ _ (List.getElem?_eq_getElem hi) (List.getElem?_eq_getElem hif) (List.getElem?_eq_getElem hie) (M ++ [A]) _ _ (L.so.new hT) (((L.re.mono eT).set (x := .d _) (At.mono eT _ _ rx)).set (x := .d _) (At.mono eT _ _ ry)) _ fun z H4 e4 S4 r4 => ?_
        have L2 : Lc K M H1 S es A σ ρ [(.ref a, w ds), (.ref b, w fs)] i (upd H T (.tup [x, y])) := by
          refine ⟨L.so.new hT, ?_, L.re.mono eT, fun q hq => At.mono eT _ _ (L.sr q hq)⟩
          exact L.sm.trans (hid_new hT)
        exact L2.item hA (List.getElem?_eq_getElem hie) e4 S4 r4 hz
      rcases hw with hw | hw
      · subst hw
        have ra' : At K (hid M H1) _ (.list ds) := ra
        have rb' : At K (hid M H1) _ (.list fs) := rb
        cases ra' with
        | @lst a us _ ha hus =>
          cases rb' with
          | @lst b ws _ hb hws =>
            refine ⟨a, b, us, ws, rfl, .inl ⟨SqL.of (hid_some ha).2, SqL.of (hid_some hb).2, fun A hA => ?_⟩⟩
            have src : ∀ {i H}, Lc K M H1 S es A σ ρ [(.ref a, .list ds), (.ref b, .list fs)] i H → ∃ us ws, SqL K H a us ∧ SqL K H b ws ∧ AtAll K (hid (M ++ [A]) H) us ds ∧ AtAll K (hid (M ++ [A]) H) ws fs := fun {i H} L => by
              have h1 : At K (hid (M ++ [A]) H) (.ref a) (.list ds) := L.sr _ (List.mem_cons_self ..)
              have h2 : At K (hid (M ++ [A]) H) (.ref b) (.list fs) := L.sr (.ref b, .list fs) (by simp)
              cases h1 with
              | lst h3 h4 =>
                cases h2 with
                | lst h5 h6 => exact ⟨_, _, SqL.of (hid_some h3).2, SqL.of (hid_some h5).2, h4, h6⟩
            refine lc_any (J := Itz K a b) (N := ds.length) (Lc K M H1 S es A σ ρ [(.ref a, .list ds), (.ref b, .list fs)]) (Lc.start S1 (Re.mono e1) (fun q hq => ?_) hA) (fun i H hi L => ?_) (fun H L => ?_) (fun i x H H' hi L hy => ?_) (fun H L => L.done hA hl e1 (back_none e1 S1 hA) q)
            · simp at hq
              rcases hq with hq | hq
              · subst hq; exact ra
              · subst hq; exact rb
            · obtain ⟨us, ws, h1, h2, h3, h4⟩ := src L
              obtain ⟨x, hx, _⟩ := h3.get (List.getElem?_eq_getElem hi)
              obtain ⟨y, hy, _⟩ := h4.get (List.getElem?_eq_getElem (show i < fs.length by rw [hf]; exact hi))
              exact ⟨us, ws, x, y, h1, h2, hx, hy⟩
            · obtain ⟨us, ws, h1, h2, h3, h4⟩ := src L
              exact ⟨us, ws, h1, h2, .inl (by rw [h3.len]; exact Nat.le_refl _)⟩
            · obtain ⟨T, x1, y1, rfl, hT, rfl, f1, f2⟩ := hy
              obtain ⟨us, ws, h1, h2, h3, h4⟩ := src L
              exact turn hA hi L hT h3 h4 (f1 us h1) (f2 ws h2)
      · subst hw
        have ra' : At K (hid M H1) _ (.tuple ds) := ra
        have rb' : At K (hid M H1) _ (.tuple fs) := rb
        cases ra' with
        | @tup a us _ ha hus =>
          cases rb' with
          | @tup b ws _ hb hws =>
            refine ⟨a, b, us, ws, rfl, .inr ⟨same_t hid_same ha, same_t hid_same hb, fun A hA => ?_⟩⟩
            have src : ∀ {i H}, Lc K M H1 S es A σ ρ [(.ref a, .tuple ds), (.ref b, .tuple fs)] i H → ∃ us ws, SqT K H a us ∧ SqT K H b ws ∧ AtAll K (hid (M ++ [A]) H) us ds ∧ AtAll K (hid (M ++ [A]) H) ws fs := fun {i H} L => by
              have h1 : At K (hid (M ++ [A]) H) (.ref a) (.tuple ds) := L.sr _ (List.mem_cons_self ..)
              have h2 : At K (hid (M ++ [A]) H) (.ref b) (.tuple fs) := L.sr (.ref b, .tuple fs) (by simp)
              cases h1 with
              | tup h3 h4 =>
                cases h2 with
                | tup h5 h6 => exact ⟨_, _, same_t hid_same h3, same_t hid_same h5, h4, h6⟩
            refine lc_any (J := RZ.ItzT K a b) (N := ds.length) (Lc K M H1 S es A σ ρ [(.ref a, .tuple ds), (.ref b, .tuple fs)]) (Lc.start S1 (Re.mono e1) (fun q hq => ?_) hA) (fun i H hi L => ?_) (fun H L => ?_) (fun i x H H' hi L hy => ?_) (fun H L => L.done hA hl e1 (back_none e1 S1 hA) q)
            · simp at hq
              rcases hq with hq | hq
              · subst hq; exact ra
              · subst hq; exact rb
            · obtain ⟨us, ws, h1, h2, h3, h4⟩ := src L
              obtain ⟨x, hx, _⟩ := h3.get (List.getElem?_eq_getElem hi)
              obtain ⟨y, hy, _⟩ := h4.get (List.getElem?_eq_getElem (show i < fs.length by rw [hf]; exact hi))
              exact ⟨us, ws, x, y, h1, h2, hx, hy⟩
            · obtain ⟨us, ws, h1, h2, h3, h4⟩ := src L
              exact ⟨us, ws, h1, h2, .inl (by rw [h3.len]; exact Nat.le_refl _)⟩
            · obtain ⟨T, x1, y1, rfl, hT, rfl, f1, f2⟩ := hy
              obtain ⟨us, ws, h1, h2, h3, h4⟩ := src L
              exact turn hA hi L hT h3 h4 (f1 us h1) (f2 ws h2)

/-! ## a def's start -/
def rho0 (N : List Str) (xs : List Dx) : En := xs.map some ++ List.replicate (N.length - xs.length) none
theorem re_start {N : List Str} {vs : List V} (r : RXs K M H vs xs) : RE K M H (L2.start N vs) (rho0 N xs) := by
  have hl := r.len
  refine ⟨by unfold L2.start rho0; simp [hl], fun i x hx => ?_⟩
  unfold rho0 at hx
  unfold L2.start
  by_cases c : i < xs.length
  · rw [List.getElem?_append_left (by simpa using c), List.getElem?_map] at hx
    have : ∀ {vs : List V} {xs : List Dx} {i : Nat}, RXs K M H vs xs → (xs[i]?).map some = some (some x) → ∃ v, vs[i]? = some v ∧ RX K M H v x := fun {vs xs i} r => by
      induction r generalizing i with
      | nil => intro h; simp at h
      | cons h t ih =>
        intro hx
        cases i with
        | zero => simp at hx; subst hx; exact ⟨_, rfl, h⟩
        | succ i => exact ih (i := i) (by simpa using hx)
    obtain ⟨v, h1, h2⟩ := this r hx
    exact ⟨v, by rw [List.getElem?_append_left (by simpa using (List.getElem?_eq_some_iff.mp h1).1), List.getElem?_map, h1]; rfl, h2⟩
  · rw [List.getElem?_append_right (by simpa using c), List.getElem?_replicate] at hx
    split at hx <;> cases hx
theorem w_run {N : List Str} {vs : List V} {P : L2.St → Hp → Prop} (hS : So K M s H) (r : RXs K M H vs xs) (h : W K M H [] P (rho0 N xs) s) : P (L2.start N vs) H :=
  h M _ H ⟨⟨[], (List.append_nil M).symm, fun _ h => by cases h⟩, Same.refl _, hS, re_start r, fun _ h => by cases h⟩
end
end Pw
namespace Pw
open PySem L2
/-! ## defs as they are called -/
section
variable {P : Program} {w : World} {K : Fg} {mg : Str → Option Value} {base : Heap} {X : Cx}
/-- a def known by its promise, all its arguments written -/
structure Cb (P : Program) (w : World) (K : Fg) (mg : Str → Option Value) (base : Heap) (x : Str) (lv : Nat) (dvs : List V) (sp : Sp) : Prop where
  ex : ∃ (f : Addr) (fd : FuncData) (ps : List Str) (ds : List Value), mg x = some (.ref f) ∧ PySem.W.keepIn K (.ref f) = true ∧ FnOk P w K mg base CX0 lv f fd ps sp ∧ Binds K fd ps ds ∧ Vals dvs ds
/-- .. by keywords alone -/
structure Ck (P : Program) (w : World) (K : Fg) (mg : Str → Option Value) (base : Heap) (x : Str) (lv : Nat) (ks : List Str) (g : {α : Type} → List α → List α) (sp : Sp) : Prop where
  ex : ∃ (f : Addr) (fd : FuncData) (ps : List Str) (g' : List Value → List Value → List Value), mg x = some (.ref f) ∧ PySem.W.keepIn K (.ref f) = true ∧ FnOk P w K mg base CX0 lv f fd ps sp ∧ KBn K fd ps 0 ks g' (fun _ zs => g zs)
theorem pe_cb {fx : Str} {lv : Nat} {dvs : List V} {sp : Sp} {p pos : Pos} {e : Expr} {es : List Expr} {t : TA} (C : Cb X.prog X.w X.K X.mg X.base fx lv dvs sp) (hr : Room lv X.A) (hg : Gl X fx) (ha : PA X (e :: es) t)
    (hdb : (fx == ("__debug__" : Str)) = false := by decide) (he : starEach (e :: es) X.env = (false, eval e X.env) :: starEach es X.env := by rfl)
    (hpl : (backTo pos (starEach es X.env)).any (·.1) = false := by rfl) : PE X (.Call (.Name fx p) (e :: es) [] pos) (tCall sp dvs E0 t) := by
  obtain ⟨f, fd, ps, ds, h1, h2, h3, h4, h5⟩ := C.ex
  exact pe_call h3 hr hg h1 h2 h4 h5 pass0 ha hdb he hpl
theorem pe_ck {fx : Str} {lv : Nat} {ks : List Str} {g : {α : Type} → List α → List α} {sp : Sp} {p pos : Pos} {kws : List Keyword} {tk : TA} (C : Ck X.prog X.w X.K X.mg X.base fx lv ks g sp) (hr : Room lv X.A) (hg : Gl X fx) (hkw : PK X kws tk)
    (hall : (backToKw pos (keywordEach kws X.env)).all (·.1.isSome) = true := by rfl)
    (hks : (backToKw pos (keywordEach kws X.env)).filterMap (·.1) = ks := by rfl)
    (hdb : (fx == ("__debug__" : Str)) = false := by decide)
    (hpl : ((backTo pos (starEach [] X.env)).any (·.1) || (backToKw pos (keywordEach kws X.env)).any (·.1.isNone)) = false := by rfl) :
    PE X (.Call (.Name fx p) [] kws pos) (tCallN 0 ks.length sp (fun _ zs => g zs) E0 tNil tk) := by
  obtain ⟨f, fd, ps, g', h1, h2, h3, h4⟩ := C.ex
  exact pe_kw h3 hr hg h1 h2 h4 pass0 hkw hall hks hdb hpl
def swap2 {α : Type} : List α → List α
  | [a, b] => [b, a]
  | l => l
def same1 {α : Type} (l : List α) : List α := l
theorem vals_swap2 {zs : List V} {ws : List Value} (h : Vals zs ws) : Vals (swap2 zs) (swap2 ws) := by
  cases h with
  | nil => exact .nil
  | cons h t =>
    cases t with
    | nil => exact .cons h .nil
    | cons h2 t =>
      cases t with
      | nil => exact .cons h2 (.cons h .nil)
      | cons h3 t => exact .cons h (.cons h2 (.cons h3 t))
theorem vals_same1 {zs : List V} {ws : List Value} (h : Vals zs ws) : Vals (same1 zs) (same1 ws) := h
theorem rxs_swap2 {M : List Addr} {H : Hp} {a b : Dx} {zs : List V} (h : RXs K M H zs [a, b]) : RXs K M H (swap2 zs) [b, a] := by
  cases h with
  | cons h t =>
    cases t with
    | cons h2 t =>
      cases t
      exact .cons h2 (.cons h .nil)
theorem rxs_same1 {M : List Addr} {H : Hp} {xs : List Dx} {zs : List V} (h : RXs K M H zs xs) : RXs K M H (same1 zs) xs := h
section
variable {nm qual : Str} {st : Stmt} {f : Addr} {fd : FuncData} {ps ks : List Str} {lv : Nat} {sp : Sp} {g : {α : Type} → List α → List α}
theorem cb_mk (G : Fun K nm qual st f fd) (hm : mg nm = some (.ref f)) (O : FnOk P w K mg base CX0 lv f fd ps sp)
    (h : ∀ (kV doc pm : Value) (an : Option Addr) (cdv ct : Value) (us : List Value), us.length = ps.length → bindArgs (PySem.W.fnOf nm qual (defArgs st) (defBody st) (defScope st) .none kV doc pm an cdv ct) ⟨us, []⟩ = pure (ps.zip us)) : Cb P w K mg base nm lv [] sp :=
  ⟨f, fd, ps, [], hm, G.kp, O, G.binds h, .nil⟩
theorem ck_mk (G : Fun K nm qual st f fd) (hm : mg nm = some (.ref f)) (O : FnOk P w K mg base CX0 lv f fd ps sp) (hrel : ∀ {zs : List V} {ws : List Value}, Vals zs ws → Vals (g zs) (g ws))
    (h : ∀ (kV doc pm : Value) (an : Option Addr) (cdv ct : Value) (ws : List Value), ws.length = ks.length → bindArgs (PySem.W.fnOf nm qual (defArgs st) (defBody st) (defScope st) .none kV doc pm an cdv ct) ⟨[], ks.zip ws⟩ = pure (ps.zip (g ws))) : Ck P w K mg base nm lv ks g sp :=
  ⟨f, fd, ps, _, hm, G.kp, O, kb_of G (fun _ r => hrel r) h (fun _ r => hrel r)⟩
/-- a def with defaults -/
theorem ckD_mk {dvs : List V} (G : FunD K nm qual (defArgs st) (defBody st) (defScope st) dvs [] f fd) (hd : dvs ≠ []) (hm : mg nm = some (.ref f)) (O : FnOk P w K mg base CX0 lv f fd ps sp) (hrel : ∀ {zs : List V} {ws : List Value}, Vals zs ws → Vals (g zs) (g ws))
    (h : ∀ (T : Addr) (kV doc pm : Value) (an : Option Addr) (cdv ct : Value) (ws its : List Value), ws.length = ks.length → its.length = dvs.length →
      ∃ k, bindArgs (PySem.W.fnOf nm qual (defArgs st) (defBody st) (defScope st) (.ref T) kV doc pm an cdv ct) ⟨[], ks.zip ws⟩ = seqItems? (.ref T) >>= k ∧ k (some its.toArray) = pure (ps.zip (g ws))) : Ck P w K mg base nm lv ks g sp := by
  obtain ⟨oc, od, dV, kV, doc, pm, an, cdv, ct, osl, rfl, lk, hcd, hD, hK⟩ := G.ex
  rcases hD with ⟨e, _⟩ | ⟨_, T, o, its, m, rfl, lT, oT, rT⟩
  · exact absurd e hd
  · refine ⟨f, _, ps, fun _ ws => g ws, hm, G.kp, O, ⟨fun s us ws Xs l1 l2 => ?_, fun _ r => hrel r⟩⟩
    have e : us = [] := List.eq_nil_of_length_eq_zero l1
    subst e
    obtain ⟨k, e1, e2⟩ := h T kV doc pm an cdv ct ws its l2 rT.length.symm
    refine BindsTo.of_looks fun M => ?_
    rw [e1]
    exact looks_items Xs lT oT (PySem.W.Looks.of_pure e2)
theorem cbD_mk {dvs : List V} (n j : Nat) (G : FunD K nm qual (defArgs st) (defBody st) (defScope st) dvs [] f fd) (hd : dvs ≠ []) (hn : n + (dvs.length - j) = ps.length) (hm : mg nm = some (.ref f)) (O : FnOk P w K mg base CX0 lv f fd ps sp)
    (h : ∀ (T : Addr) (kV doc pm : Value) (an : Option Addr) (cdv ct : Value) (us its : List Value), us.length = n → its.length = dvs.length →
      ∃ k, bindArgs (PySem.W.fnOf nm qual (defArgs st) (defBody st) (defScope st) (.ref T) kV doc pm an cdv ct) ⟨us, []⟩ = seqItems? (.ref T) >>= k ∧ k (some its.toArray) = pure (ps.zip (us ++ its.drop j))) : Cb P w K mg base nm lv (dvs.drop j) sp := by
  obtain ⟨ds, h1, h2⟩ := G.binds1 n j hd hn h
  exact ⟨f, fd, ps, ds, hm, G.kp, O, h2, h1⟩
end
end

/-! ## the law's own def, run where no repr is under way -/
section
open PySem.W PySem.Spec PyProof.Rows
variable {P : Program} {w : World} {K : Fg} {mg mb : Str → Option Value}
/-- where the script stands -/
def scrH (K : Fg) (a : Addr) (vs : List Value) (ns : List Int) : Hp := match K.lookup a with
  | some _ => fun _ => none
  | none => fun b => if b = a then some (.frz { cls := .type "list", data := .seq vs.toArray } (.lst (ns.map V.int))) else none
theorem scr_sq {a : Addr} {vs : List Value} {ns : List Int} {h : Heap} (KX : K.In h) (ha : h.get? a = some { cls := .type "list", data := .seq vs.toArray }) (rv : Vals (ns.map V.int) vs) (hl : ns.length ≤ sizeLine) : SqL K (scrH K a vs ns) a (ns.map V.int) := by
  unfold scrH
  cases hk : K.lookup a with
  | some o =>
    have e := KX a o hk
    rw [ha] at e
    cases e
    have l := rv.length
    rw [List.length_map] at l
    exact .inr ⟨_, vs.toArray, _, hk, rfl, rfl, rfl, by rw [List.size_toArray, ← l]; exact hl, by simpa using rv⟩
  | none => exact .inl (.inr ⟨_, if_pos rfl⟩)
theorem scr_only {a : Addr} {vs : List Value} {ns : List Int} {b : Addr} {u : HO} (e : scrH K a vs ns b = some u) : b = a ∧ K.lookup a = none ∧ u = .frz { cls := .type "list", data := .seq vs.toArray } (.lst (ns.map V.int)) := by
  unfold scrH at e
  cases hk : K.lookup a with
  | some o => rw [hk] at e; cases e
  | none =>
    rw [hk] at e
    have e' : (if b = a then some (HO.frz { cls := .type "list", data := .seq vs.toArray } (.lst (ns.map V.int))) else none) = some u := e
    by_cases c : b = a
    · rw [if_pos c] at e'
      cases e'
      exact ⟨c, rfl, rfl⟩
    · rw [if_neg c] at e'
      cases e'
theorem law_at {fa a : Addr} {qual : Str} {st : Stmt} {fd : FuncData} {x nm : Str} {N : List Str} {k : Nat} {s₁ : Shared} {vs : List Value} {ns : List Int} (KX : K.In s₁.heap) (hns : s₁.heap.Ns mainGlobals mg) (hb : s₁.heap.Ns builtinsNs mb)
    (hbb : ∀ y : Str, y ≠ "__name__" → mb y = bootBuiltins y) (hlim : s₁.heap.NoLimit) (hgn : s₁.gens = #[]) (ha : s₁.heap.get? a = some { cls := .type "list", data := .seq vs.toArray }) (hi : IntsAre vs ns) (hl : ns.length ≤ sizeLine)
    (hr : Room (k + 1) callerA) (G : Fun K nm qual st fa fd) (S : FnScope N [x] (defScope st)) (hbind : ∀ (s : Shared) (u : Value), BindsTo s fd ⟨[u], []⟩ [(x, u)])
    (hbody : ∀ (base : Heap) (cdv : Value) (s : Shared) (H : Hp), K.In base → base.Ns mainGlobals mg → Room k (callerA.deeper (envOfC qual (defScope st) s.heap.objs.size fa cdv)) → SqL K H a (ns.map V.int) →
      ∃ t, PSs (cxOf CX0 P w K mg base N qual (defScope st) fa cdv callerA [] s H E0).nox (defBody st) t ∧ t { nx := fun _ _ => False, rt := fun v _ => v = .bl true } (L2.start N [.ref a]) H) :
    codeAny (model P w) callerA (.call (.ref fa) ⟨[.ref a], []⟩) (fun r s' => r = .ok (.ret (.bool true)) ∧ OldK s₁.heap s'.heap ∧ s'.os = s₁.os ∧ AllBare s'.gens) s₁ := by
  have rv := vals_ints hi
  obtain ⟨oc, od, kV, doc, pm, an, cdv, ct, osl, rfl, lk, hcd⟩ := G.ex
  let H : Hp := scrH K a vs ns
  have hSq : SqL K H a (ns.map V.int) := scr_sq KX ha rv hl
  have hA : ∀ {b : Addr} {u : HO}, H b = some u → b = a ∧ K.lookup a = none ∧ u = .frz { cls := .type "list", data := .seq vs.toArray } (.lst (ns.map V.int)) := fun e => scr_only e
  have hok : HOk P w H s₁.heap := fun b u e => by
    obtain ⟨e1, _, e2⟩ := hA e
    subst e1 e2
    exact ⟨ha, by rw [List.length_map]; exact hl, vs, _, rv, ha⟩
  have keepH : ∀ {b : Addr} {o : Obj}, s₁.heap.get? b = some o → H b = none → (hidT s₁.heap H).get? b = some o := fun e n => hidT_get e n
  have noDict : ∀ {b : Addr} {o : Obj} {es : Array DictEntry} {ep : Nat}, s₁.heap.get? b = some o → o.data = .dict es ep → H b = none := fun {b o es ep} e d => by
    cases q : H b with
    | none => rfl
    | some u =>
      obtain ⟨e1, _, _⟩ := hA q
      rw [e1, ha] at e
      cases e
      exact nomatch d
  have nsH : ∀ {b : Addr} {m : Str → Option Value}, s₁.heap.Ns b m → (hidT s₁.heap H).Ns b m := fun ⟨o, es, ep, e, d, r⟩ => ⟨o, es, ep, keepH e (noDict e d), d, r⟩
  have hKb : K.In (hidT s₁.heap H) := fun b o e => keepH (KX b o e) (by
    cases q : H b with
    | none => rfl
    | some u =>
      obtain ⟨e1, e2, _⟩ := hA q
      rw [e1, e2] at e
      cases e)
  have hM : Mod K mg (hidT s₁.heap H) := ⟨hKb, nsH hns, ⟨mb, nsH hb, hbb⟩, let ⟨mc, h1, h2⟩ := hlim; ⟨mc, nsH h1, h2⟩⟩
  have e0 : Env0 P w K mg (hidT s₁.heap H) callerA [] s₁ H := ⟨rfl, hM, fun b o e => of_hidT e, Nat.le_of_eq (hidT_size _ _), trivial, fun b z => (by cases (show b ∈ ([] : List Addr) from z)), hok, .of_eq hgn⟩
  have hkind : ∀ y ∈ ([x] : List Str).zip [Value.ref a], (defScope st).names.lookup y.1 = some .local ∨ ((defScope st).names.lookup y.1 = some .cell ∧ ((cellsFrom (s₁.heap.objs.size + 1) (defScope st).names []).lookup y.1).isSome = true) := fun ⟨y, v⟩ hy =>
    (S.par y (List.of_mem_zip hy).1).imp (fun q => q) fun q => ⟨q, PySem.W.cellsFrom_some _ _ _ (.inl q)⟩
  refine codeAny_call_function hr.depth (KX _ _ lk) rfl S.co S.gen rfl (PySem.W.codeRec_of KX hcd) (hbind s₁ (.ref a) _ _ _ _ ?_)
  refine wpAny_newFunctionEnv_cells S.kind hkind fun env he s1 xx => ?_
  subst he
  refine ⟨hlim.keeps xx.toInCall.keep, codeAny_func ?_⟩
  obtain ⟨t, ht, hq⟩ := hbody (hidT s₁.heap H) cdv s₁ H hKb (nsH hns) (hr.deeper _) hSq
  have I : Inv (cxOf CX0 P w K mg (hidT s₁.heap H) N qual (defScope st) fa cdv callerA [] s₁ H E0) [] (L2.start N [.ref a]) H s1 := inv_start S hr.hd e0 rfl (.cons rfl .nil) xx
  refine wpAny_mono (ht.nox.run [] s1 _ H _ I hq) (fun fl s' hs => ?_) fun e s' hs => ?_
  · cases fl with
    | ret u =>
      obtain ⟨v, σ', H', J, ru, q⟩ := hs
      have q' : v = .bl true := q
      subst q'
      cases (show u = Value.bool true from ru)
      refine ⟨rfl, OldK.of_keep fun b o e => ?_, J.os, J.bare⟩
      cases q : H b with
      | none => exact J.base.keep b o e q (fun z => by cases (show b ∈ ([] : List Addr) from z)) (fun z => by cases (show b ∈ ([] : List Addr) from z))
      | some u =>
        obtain ⟨e1, _, e2⟩ := hA q
        subst e1 e2
        obtain ⟨e3, _⟩ := J.hok _ _ (J.base.frzs _ _ _ q)
        rw [ha] at e
        cases e
        exact e3
    | next => obtain ⟨_, _, _, q⟩ := hs; exact q.elim
    | brk => obtain ⟨_, _, _, q⟩ := hs; exact (show False from q).elim
    | cont => obtain ⟨_, _, _, q⟩ := hs; exact (show False from q).elim
  · exact wpAny_mono hs (fun _ _ z => (show False from z).elim) fun _ _ z => (show False from z).elim
end

/-! ## repr -/
section
variable {X : Cx} {K : Fg} {s : Sto}
theorem cb_repr (hg : X.A.guards = some []) (hu : X.A.units + 64 < cLine) : CallR X (.builtin "repr") (rRepr X.K) := by
  intro pins s σ H xs us Q I r h
  obtain ⟨x, d, rfl, hd, h1, h2, h3, h4, q⟩ := h
  obtain ⟨u, rfl, ru⟩ := vals1 r
  obtain ⟨as, hr⟩ := Dp.reads I d x u hd ru
  cases hr with
  | none => exact PySem.P.repr_of_none ⟨.str _, H, I.tok _, ⟨_, rfl⟩, q⟩
  | bool b => exact PySem.P.repr_of_bool ⟨.str _, H, I.tok _, ⟨_, rfl⟩, q⟩
  | int i t => exact PySem.P.repr_of_int (of_decide_eq_true h1) ⟨.str _, H, I.tok _, ⟨_, rfl⟩, q⟩
  | str z t => exact PySem.P.repr_of_str ⟨.str _, H, I.tok _, ⟨_, rfl⟩, q⟩ h4
  | @list a o vs n ys as g1 g2 g3 g4 =>
    exact PySem.repr_of_reads' (.list g1 g2 g3 g4) h1 (PyData.noDict_hsm h2) hg (by omega) (fun _ _ e => e) (fun h' u tk hk => ⟨.str _, H, I.kept hk, ⟨_, rfl⟩, q⟩) h4
  | @tuple a o vs n ys as g1 g2 g3 g4 =>
    exact PySem.repr_of_reads' (.tuple g1 g2 g3 g4) h1 (PyData.noDict_hsm h2) hg (by omega) (fun _ _ e => e) (fun h' u tk hk => ⟨.str _, H, I.kept hk, ⟨_, rfl⟩, q⟩) h4
  | dict g1 g2 g3 g4 g5 => simp [PyData.hasDict] at h2
theorem o_repr {d : PyData} (h1 : PyData.showable d = true) (h2 : PyData.hasDict d = false) (h3 : d.depth ≤ 60) (h4 : d.shown.length ≤ 16000000) : OpC K (rRepr K) [.d d] s (.d (.str d.shown)) s := fun M H vs S r Q q => by
  cases r with
  | cons h t =>
    cases t
    exact ⟨_, d, rfl, At.dp _ _ (At.mono hid_same _ _ h), h1, h2, h3, Nat.le_trans h4 (by decide), q.here S (.str _)⟩
end
/-! ## slices -/
section
variable {X : Cx} {K : Fg} {s s1 s2 s3 : Sto} {ρ : En} {te : TE} {tl th : TO} {x : Dx}
theorem SlR.or {r r' : V → Option Int → Option Int → Hp → VK → Prop} (h : SlR X r) (h' : SlR X r') : SlR X (fun x lo hi H Q => r x lo hi H Q ∨ r' x lo hi H Q) := fun pins s σ H x v vl vu lo hi sl Q I rx hs pl pu q =>
  q.elim (h pins s σ H x v vl vu lo hi sl Q I rx hs pl pu) (h' pins s σ H x v vl vu lo hi sl Q I rx hs pl pu)
def EvO (K : Fg) (to : TO) (ρ : En) (s : Sto) (o : Option Int) (s' : Sto) : Prop := ∀ M σ H, So K M s H → RE K M H σ ρ → ∀ Q : Option Int → Hp → Prop, (∀ H', Same (hid M H) (hid M H') → So K M s' H' → Q o H') → to σ H Q
theorem eo_none : EvO K tNoPart ρ s none s := fun M σ H S R Q q => q H (Same.refl _) S
theorem eo_some {i : Int} (h : Ev K te ρ s (.d (.int i)) s1) : EvO K (tPart te) ρ s (some i) s1 := fun M σ H S R Q q => h M σ H S R _ fun v H1 e S1 r => by
  cases r
  exact ⟨i, rfl, q H1 e S1⟩
/-- t[lo:hi], t a tuple -/
theorem cut_all {α : Type} (xs : List α) (a b : Nat) (h : a = 0 ∧ b = xs.length) : (xs.drop a).take (b - a) = xs := by
  obtain ⟨rfl, rfl⟩ := h
  simp
def cutD (ds : List PyData) (lo hi : Option Int) : List PyData := (ds.drop (HT.sIx ds.length 0 lo)).take (HT.sIx ds.length ds.length hi - HT.sIx ds.length 0 lo)
theorem ev_slT {ds : List PyData} {lo hi : Option Int} (h : Ev K te ρ s (.d (.tuple ds)) s1) (h1 : EvO K tl ρ s1 lo s2) (h2 : EvO K th ρ s2 hi s3) : Ev K (tSl (rSlA K) te tl th) ρ s (.d (.tuple (cutD ds lo hi))) s3 := fun M σ H S R Q q =>
  h M σ H S R _ fun v H1 e1 S1 r => h1 M σ H1 S1 (R.mono e1) _ fun H2 e2 S2 => h2 M σ H2 S2 (R.mono (e1.trans e2)) _ fun H3 e3 S3 => by
    have r' : At K (hid M H3) v (.tuple ds) := At.mono (e2.trans e3) _ _ r
    have q3 := q.step ((e1.trans e2).trans e3)
    cases r' with
    | @tup a xs _ g a1 =>
      refine ⟨a, xs, rfl, same_t hid_same g, fun z => ?_, fun z p hp => ?_⟩
      · refine q3.here S3 ?_
        have e : cutD ds lo hi = ds := by
          unfold cutD
          refine cut_all _ _ _ ?_
          rw [← a1.len]
          exact z
        rw [e]
        exact .tup g a1
      · refine q3 _ _ (hid_new hp) (S3.new hp) (At.tup (xs := cutV xs lo hi) (SqT.of ?_) (AtAll.mono (hid_new hp) _ _ ?_))
        · rw [hid_out (S3.free hp)]
          exact upd_same
        · unfold cutV cutD
          rw [← a1.len]
          exact AtAll.take _ (AtAll.drop _ a1)
end
end Pw
namespace Pw
open PySem L2
section
variable {P : Program} {w : World} {K : Fg} {mg : Str → Option Value} {base : Heap} {ρ : En} {s s1 s2 s3 : Sto} {x y z : Dx} {xs ys zs : List Dx} {ta tb te : TE} {tas tks : TA} {t u : TT} {b c : Bool} {i j : Int} {ds es : List PyData}
theorem cx_K {CX : CXT} {N : List Str} {qual : Str} {sc : Scope} {f : Addr} {cd : Value} {A : Around} {outer : List Env} {s : Shared} {H : Hp} {E : XK} : (cxOf CX P w K mg base N qual sc f cd A outer s H E).K = K := rfl
theorem nox_K {CX : CXT} {N : List Str} {qual : Str} {sc : Scope} {f : Addr} {cd : Value} {A : Around} {outer : List Env} {s : Shared} {H : Hp} {E : XK} : (cxOf CX P w K mg base N qual sc f cd A outer s H E).nox.K = K := rfl
theorem okr_0 {M0 : List Addr} {H0 : Hp} {Q : VK} {d : PyData} {s : Sto} (q : Okk K M0 s (.d d) H0 Q) (hl : s.length = M0.length) : Okr K M0 H0 (.d d) s Q := by
  have h := okr_d (t := []) q hl
  rw [List.append_nil] at h
  exact h
theorem Okr.is {M0 : List Addr} {H0 : Hp} {Q : VK} {x x' : Dx} {s : Sto} (h : Okr K M0 H0 x s Q) (e : x' = x) : Okr K M0 H0 x' s Q := e ▸ h
inductive Und : List Dx → List PyData → Prop
  | nil : Und [] []
  | cons {d xs ds} : Und xs ds → Und (.d d :: xs) (d :: ds)
theorem Und.map : ∀ {xs : List Dx} {ds : List PyData}, Und xs ds → xs = ds.map Dx.d
  | _, _, .nil => rfl
  | _, _, .cons h => by rw [List.map_cons, ← h.map]
theorem ev_tupU (h : Eva K tas ρ s xs s1) (hu : Und xs ds) (hl : ds.length ≤ 100000) : Ev K (tTup tas) ρ s (.d (.tuple ds)) s1 := ev_tup (hu.map ▸ h) hl
theorem evn_lstU (h : Eva K tas ρ s xs s1) (hu : Und xs ds) (hl : ds.length ≤ 100000) : EvN K (tLst tas) ρ s ds s1 := evn_lst (hu.map ▸ h) hl
theorem et_or1 (h1 : EvT K t ρ s true s1) : EvT K (tOr t u) ρ s true s1 := fun M σ H S R Q q => h1 M σ H S R _ fun H1 e S1 => q H1 e S1
theorem et_and0 (h1 : EvT K t ρ s false s1) : EvT K (tAnd t u) ρ s false s1 := fun M σ H S R Q q => h1 M σ H S R _ fun H1 e S1 => q H1 e S1
theorem ev_and0 (h1 : Ev K ta ρ s (.d (.bool false)) s1) : Ev K (tAndV ta tb) ρ s (.d (.bool false)) s1 := fun M σ H S R Q q => h1 M σ H S R _ fun v H1 e S1 r => by
  cases r
  exact ⟨false, rfl, q _ H1 e S1 (.bl false)⟩
theorem o_repI (h : ds.length * j.toNat ≤ 1000000) (h0 : 0 ≤ j) (h2 : j ≤ 1000000) : Op2N K rTimes (.d (.list ds)) (.d (.int j)) s (List.replicate j.toNat ds).flatten s := by
  have e : j = ((j.toNat : Nat) : Int) := (Int.toNat_of_nonneg h0).symm
  have := o_rep (K := K) (s := s) (ds := ds) (n := j.toNat) h (by omega)
  rw [← e] at this
  exact this
theorem o_neS {a b : Str} : Op2 K rNe (.d (.str a)) (.d (.str b)) s (.d (.bool (!decide (V.str a = V.str b)))) s := fun M H v w S r1 r2 Q q => by
  cases r1; cases r2
  exact ⟨rfl, q.here S (.bl _)⟩
theorem o_eqS {a b : Str} : Op2 K rEq (.d (.str a)) (.d (.str b)) s (.d (.bool (decide (V.str a = V.str b)))) s := fun M H v w S r1 r2 Q q => by
  cases r1; cases r2
  exact ⟨rfl, q.here S (.bl _)⟩
theorem w_at {M0 : List Addr} {H0 : Hp} {F : Kp} {P : L2.St → Hp → Prop} {ρ' : En} {s' : Sto} (h : W K M0 H0 F P ρ' s') (hρ : ρ = ρ' := by rfl) (hs : s = s' := by rfl) : W K M0 H0 F P ρ s := hρ ▸ hs ▸ h
theorem so_nil {H : Hp} : So K [] [] H := ⟨List.nodup_nil, rfl, fun k p ds e => by simp at e⟩
theorem hid_nil {H : Hp} : hid [] H = H := by
  funext a
  exact hid_out (by simp)
theorem rxs_scr {H : Hp} {a : Addr} {ns : List Int} (h : SqL K H a (ns.map V.int)) : RXs K [] H [.ref a] [.scr ns] := .cons ⟨a, rfl, by rw [hid_nil]; exact h⟩ .nil
theorem okr_true {H : Hp} {s : Sto} : Okr K [] H (.d (.bool true)) s (fun v _ => v = .bl true) := fun M v H' _ _ _ r => by
  cases r
  rfl
theorem rxs_1 {M : List Addr} {H : Hp} {i : Int} : RXs K M H [.int i] [.d (.int i)] := .cons (.int i) .nil
/-! ### isinstance by kind -/
def isI : PyData → Bool
  | .int _ => true | .bool _ => true | _ => false
def isB : PyData → Bool
  | .bool _ => true | _ => false
def isL : PyData → Bool
  | .list _ => true | _ => false
def isT : PyData → Bool
  | .tuple _ => true | _ => false
def isS : PyData → Bool
  | .str _ => true | _ => false
theorem kit_int {d : PyData} : kitB (tyN d) "int" = some (isI d) := by cases d <;> (simp only [tyN, isI]; decide +kernel)
theorem kit_bool {d : PyData} : kitB (tyN d) "bool" = some (isB d) := by cases d <;> (simp only [tyN, isB]; decide +kernel)
theorem kit_list {d : PyData} : kitB (tyN d) "list" = some (isL d) := by cases d <;> (simp only [tyN, isL]; decide +kernel)
theorem kit_tuple {d : PyData} : kitB (tyN d) "tuple" = some (isT d) := by cases d <;> (simp only [tyN, isT]; decide +kernel)
theorem kit_str {d : PyData} : kitB (tyN d) "str" = some (isS d) := by cases d <;> (simp only [tyN, isS]; decide +kernel)
end
/-! ### the rules, their K told -/
section
variable {X : Cx} {K : Fg} {e : Expr} {te : TE} {es : List Expr} {t : TGs} {k n : Nat} {pos p tpos : Pos} {ta tb : TE} {a b : Expr} {tas : TA}
theorem opk_plus (hK : X.K = K := by rfl) : OpR X (binaryOp .Add) (rPlus K) := hK ▸ op_plus
theorem opk_eq (hu : X.A.units + 64 < cLine) (hK : X.K = K := by rfl) : OpR X (compareOp .Eq) (rEqD K) := hK ▸ op_eqD hu
theorem opk_ne (hu : X.A.units + 64 < cLine) (hK : X.K = K := by rfl) : OpR X (compareOp .NotEq) (rNeD K) := hK ▸ op_neD hu
theorem ixk (hK : X.K = K := by rfl) : IxR X (rIx K) := hK ▸ ix_seq
theorem cbk_len (hK : X.K = K := by rfl) : CallR X (.builtin "len") (rLen K) := hK ▸ cb_len
theorem cbk_isi (hK : X.K = K := by rfl) : CallR X (.builtin "isinstance") (rIsi K) := hK ▸ call_isi
theorem cbk_isiT (hK : X.K = K := by rfl) : CallR X (.builtin "isinstance") (rIsiT K) := hK ▸ call_isiT
theorem cbk_all (hc : X.calm = true) (hK : X.K = K := by rfl) : CallR X (.builtin "all") (rAll K) := hK ▸ cb_all hc
theorem cbk_list (hK : X.K = K := by rfl) : CallR X (.type "list") (rListOf K) := hK ▸ cb_list
theorem cbk_tup (hK : X.K = K := by rfl) : CallR X (.type "tuple") (rTupOf K) := hK ▸ cb_tup
theorem cbk_repr (hg : X.A.guards = some []) (hu : X.A.units + 64 < cLine) (hK : X.K = K := by rfl) : CallR X (.builtin "repr") (rRepr K) := hK ▸ cb_repr hg hu
theorem slk_tup (hK : X.K = K := by rfl) : SlR X (rSlA K) := hK ▸ sl_tupA
theorem pik_list {tg : Expr} (h : PE X e te) (hK : X.K = K := by rfl) : PI X tg e (iList K te) := hK ▸ pi_list h
theorem pik_tup {tg : Expr} (h : PE X e te) (hK : X.K = K := by rfl) : PI X tg e (iTup K te) := hK ▸ pi_tup h
theorem pik_zip {elts : List Expr} {kk : Nat} (hg : Gl X "zip") (hm : X.mg "zip" = none) (ha : PA X [a, b] tas) (hK : X.K = K := by rfl)
    (hs : starEach [a, b] X.env = (false, eval a X.env) :: starEach [b] X.env := by rfl) (hpl : (backTo pos (starEach [b] X.env)).any (·.1) = false := by rfl) :
    PI X (.Tuple elts kk tpos) (.Call (.Name "zip" p) [a, b] [] pos) (RZ.iZipA K tas) := hK ▸ RZ.pi_zipA hg hm ha hs hpl
theorem pgk_tup (n : Nat) (hc : X.calm = true) (h : PGs X es t) (hK : X.K = K := by rfl) (hn : (assignEach es X.env).length = n := by rfl) (hst : (assignEach es X.env).findIdx? (·.1) = none := by rfl) : PG X (.Tuple es k pos) (gTup K n t) := by
  subst hK hn
  exact pg_tup hc h rfl hst
end
end Pw
namespace Pw
open PySem L2
/-- what is known of a frame, less of it -/
inductive Lq : En → En → Prop
  | nil : Lq [] []
  | same {x l m} : Lq l m → Lq (x :: l) (x :: m)
  | none {x l m} : Lq l m → Lq (none :: l) (x :: m)
theorem Lq.len {l m : En} (h : Lq l m) : l.length = m.length := by
  induction h with
  | nil => rfl
  | same _ ih => simp [ih]
  | none _ ih => simp [ih]
theorem Lq.at_ {l m : En} (h : Lq l m) : ∀ (i : Nat) x, l[i]? = some (some x) → m[i]? = some (some x) := by
  induction h with
  | nil => intro i x e; exact e
  | same _ ih =>
    intro i x e
    cases i with
    | zero => exact e
    | succ i => exact ih i x e
  | none _ ih =>
    intro i x e
    cases i with
    | zero => cases e
    | succ i => exact ih i x e
theorem Lq.set {l m : En} (h : Lq l m) (n : Nat) (x : Option Dx) : Lq (l.set n x) (m.set n x) := by
  induction h generalizing n with
  | nil => exact .nil
  | same h ih =>
    cases n with
    | zero => exact .same h
    | succ n => exact .same (ih n)
  | none h ih =>
    cases n with
    | zero => exact .same h
    | succ n => exact .none (ih n)
theorem Lq.refl : ∀ l : En, Lq l l
  | [] => .nil
  | _ :: l => .same (Lq.refl l)
section
variable {K : Fg} {ρ ρ' : En} {s : Sto} {M0 : List Addr} {H0 : Hp} {F : Kp} {P : L2.St → Hp → Prop} {ds : List PyData}
theorem w_wk (q : Lq ρ' ρ) (h : W K M0 H0 F P ρ' s) : W K M0 H0 F P ρ s := w_weak h q.len q.at_
theorem o_tupL : OpC K (rTupOf K) [.d (.list ds)] s (.d (.tuple ds)) s := fun M H vs S r Q q => by
  cases r with
  | cons h t =>
    cases t
    cases h with
    | lst h a =>
      refine ⟨_, _, rfl, .inl ⟨SqL.of (hid_some h).2, fun l hl => ?_⟩⟩
      refine q _ _ (hid_new hl) (S.new hl) (At.tup (SqT.of ?_) (AtAll.mono (hid_new hl) _ _ a))
      rw [hid_out (S.free hl)]
      exact upd_same
end
end Pw
namespace Pw
open PySem L2
open PySem.W PySem.Spec PyProof.Rows
/-- a law's end, from its def's body -/
theorem law_end {l : PySem.W.OpenLaw} {n k : Nat} {q : Program} {loose : List Str} {XP : (Str → Option Value) → Heap → Prop} {YP : World → Heap → Prop} {d : DefRec} {K : Params → PySem.W.Frag} {x nm qual : Str} {st : Stmt} {N : List Str}
    (hn : l.most = some n) (hn2 : n ≤ sizeLine) (hdf : d.params.defaults = []) (hr : Room (k + 1) callerA) (hY : ∀ (w : World) (h : Heap), YP w h → (K w.params).In h) (S : FnScope N [x] (defScope st))
    (F : ∀ (w : World) (mg : Str → Option Value) (fa : Addr) (h : Heap), (K w.params).In h → h.Ns mainGlobals mg → mg d.name = some (.ref fa) →
      ∃ fd : FuncData, Fun (K w.params) nm qual st fa fd ∧ (∀ (s : Shared) (u : Value), BindsTo s fd ⟨[u], []⟩ [(x, u)]) ∧
        ∀ (base : Heap) (cdv : Value) (s : Shared) (H : Hp) (a : Addr) (ns : List Int), ns.length ≤ n → (K w.params).In base → base.Ns mainGlobals mg → Room k (callerA.deeper (envOfC qual (defScope st) s.heap.objs.size fa cdv)) → SqL (K w.params) H a (ns.map V.int) →
          ∃ t, PSs (cxOf CX0 l.prog w (K w.params) mg base N qual (defScope st) fa cdv callerA [] s H E0).nox (defBody st) t ∧ t { nx := fun _ _ => False, rt := fun v _ => v = .bl true } (L2.start N [.ref a]) H) :
    PySem.W.WalkO q loose XP YP l.row.toRowW d [] (fun f vs => PySem.call f vs) :=
  Att.attach_call hn hdf fun w s₀ s₁ mg mb fa o pm cd doc a vs ns G Y ho hd hcd hmg hobj hints hlen hg => by
    have KX := hY w _ Y
    obtain ⟨fd, hF, hb, hB⟩ := F w mg fa _ KX G.T.g hmg
    exact law_at KX G.T.g G.T.b G.T.builtins G.T.nolimit hg hobj hints (Nat.le_trans hlen hn2) hr hF S hb fun base cdv s H h1 h2 h3 h4 => hB base cdv s H a ns hlen h1 h2 h3 h4
end Pw
/-! errors that are caught, and held beyond their clause -/
namespace PySem
open PySem.W PySem.Spec
section
variable {M : Model} {A : Around} {E : Value → Shared → Prop} {s : Shared}
theorem loopA {cs : List Value} {f : Value → PUnit → Sem (ForInStep PUnit)} (hf : ∀ c ∈ cs, ∀ Q : ForInStep PUnit → Shared → Prop, Q (.yield ⟨⟩) s → wpAny M A (f c ⟨⟩) Q E s) {Q : PUnit → Shared → Prop} (q : Q ⟨⟩ s) : wpAny M A (forIn cs PUnit.unit f) Q E s := by
  induction cs with
  | nil =>
    rw [List.forIn_nil]
    exact wpAny_pure q
  | cons c r ih =>
    rw [List.forIn_cons]
    exact wpAny_bind (hf c List.mem_cons_self _ (ih fun c' h => hf c' (List.mem_cons_of_mem _ h)))
theorem loopB {τ : Type} {K : Frag} {cls : Value} {f : Value → τ → Sem (ForInStep τ)} {r0 rt : τ} (hf : ∀ c b, exmOne K cls c = some b → ∀ Q : ForInStep τ → Shared → Prop, Q (if b then .done rt else .yield r0) s → wpAny M A (f c r0) Q E s) :
    ∀ {cs : List Value} {b : Bool}, exmAny K cls cs = some b → ∀ {Q : τ → Shared → Prop}, Q (if b then rt else r0) s → wpAny M A (forIn cs r0 f) Q E s := by
  intro cs
  induction cs with
  | nil =>
    intro b h Q q
    rw [List.forIn_nil]
    cases h
    exact wpAny_pure q
  | cons c r ih =>
    intro b h Q q
    obtain ⟨b1, d1, h1, h2, rfl⟩ := exmAny_cons h
    rw [List.forIn_cons]
    refine wpAny_bind (hf c b1 h1 _ ?_)
    cases b1 with
    | true => exact wpAny_pure q
    | false => exact ih h2 q
/-- .. of a tuple of any many classes -/
theorem exm_tupN {K : Frag} {cs : List Value} {cls : Value} {tp e : Addr} {b : Bool} {h : Heap} (X : K.In h) (LT : Looks M h (typeOf (.ref e)) cls) (hp : h.get? tp = some { cls := .type "tuple", data := .seq cs.toArray }) (hx : exmAny K cls cs = some b) :
    Looks M h (excMatches (.ref e) (.ref tp)) b := by
  intro A Q E s k q
  have hall : ∀ {cs : List Value} {b : Bool}, exmAny K cls cs = some b → ∀ c ∈ cs, ∃ b1, exmOne K cls c = some b1 := by
    intro cs
    induction cs with
    | nil => intro _ _ c h; cases h
    | cons c r ih =>
      intro b h c' hm
      obtain ⟨b1, d1, h1, h2, _⟩ := exmAny_cons h
      rcases List.mem_cons.mp hm with rfl | hm
      · exact ⟨_, h1⟩
      · exact ih h2 c' hm
  have T0 : Looks M h (isInstance (.ref tp) (.type "tuple")) true := ((Looks.ld hp).andThen .now).andThen (Looks.of_pure isSubtype_tuple_tuple)
  have hp' := k _ _ hp
  unfold excMatches
  refine wpAny_bind ((T0.keeps k).here ?_)
  dsimp only
  rw [if_pos rfl]
  first
    | refine wpAny_bind (wpAny_seqItems hp' rfl ?_)
    | refine wpAny_bind (wpAny_bind (wpAny_seqItems hp' rfl (wpAny_pure ?_)))
  dsimp only [Option.getD_some, Option.getD]
  try refine wpAny_bind (wpAny_pure ?_)
  refine wpAny_bind (loopA (fun c hc Q' q' => ?_) ?_)
  · obtain ⟨b1, h1⟩ := hall hx c hc
    refine wpAny_bind (((exm_cls (M := M) X h1).1.keeps k).here ?_)
    simp only [Bool.not_true, Bool.false_eq_true, if_false]
    exact wpAny_pure q'
  · refine wpAny_bind ((LT.keeps k).here ?_)
    refine wpAny_bind (loopB (K := K) (cls := cls) (rt := (some true, ())) (r0 := (none, ())) (fun c b1 h1 Q' q' => ?_) hx ?_)
    · refine wpAny_bind (((exm_cls (M := M) X h1).2.keeps k).here ?_)
      cases b1 with
      | true => exact wpAny_pure q'
      | false => exact wpAny_pure q'
    · cases b with
      | true => exact wpAny_pure q
      | false => exact wpAny_pure q
end
end PySem
namespace Pw
open PySem L2 PySem.Spec PyProof.Rows
theorem exk_ok {P : Program} {w : World} {H : Hp} {h : Heap} {a : Addr} {cls : Value} {d : Option Addr} {oe : Obj} {vs : Array Value} (e : h.get? a = some oe) (z : Zc cls d oe) (hd : oe.data = .fields vs) : ObjOk P w H h a (exk cls d a) :=
  ⟨⟨oe, vs, e, z, hd⟩, ⟨oe, e⟩, fun _ _ ⟨o, v, q, r⟩ k => ⟨o, v, k o q, r⟩⟩
theorem exk_at {P : Program} {w : World} {H : Hp} {h : Heap} {a : Addr} {cls : Value} {d : Option Addr} (hok : HOk P w H h) (e : H a = some (exk cls d a)) : ∃ (oe : Obj) (vs : Array Value), h.get? a = some oe ∧ Zc cls d oe ∧ oe.data = .fields vs := (hok a _ e).1
section
variable {X : Cx} {pins : List (Addr × Obj)} {σ : L2.St} {H : Hp} {s : Shared}
/-- an object that was not there at the entry joins what is tracked -/
theorem inv_join {a : Addr} {o : HO} {oe : Obj} {vs : Array Value} (I : Inv X pins σ H s) (ha : s.heap.get? a = some oe) (hd : oe.data = .fields vs) (na : H a = none) (nL : a ≠ X.env.locals) (n0 : ∀ u, X.s_0.heap.get? a = some u → a ∈ X.ex) (np : ∀ p ∈ X.pn ++ pins, p.1 ≠ a)
    (new : ObjOk X.prog X.w (upd H a o) s.heap a o) : Inv X pins σ (upd H a o) s where
  ok := I.ok
  os := I.os
  bare := I.bare
  base := ⟨I.base.keep, I.base.slot, fun b u e n hx => by
      rw [upd_ne (fun z => hx (by rw [z] at e ⊢; exact n0 _ e))]
      exact I.base.free b u e n hx, I.base.there, fun b xs e => by
      rw [upd_ne (ne_of_none (I.base.tups b xs e) na)]
      exact I.base.tups b xs e, fun b u v e => by
      rw [upd_ne (ne_of_none (I.base.frzs b u v e) na)]
      exact I.base.frzs b u v e, fun b ps e => by
      obtain ⟨m, z⟩ := I.base.tbls b ps e
      exact ⟨m, by rw [upd_ne (ne_of_none z na)]; exact z⟩⟩
  loc := I.loc
  cell := I.cell
  free := by
    rw [upd_ne nL.symm]
    exact I.free
  freeC := fun x c e => by
    obtain ⟨v, hc⟩ := I.cell x c e
    rw [upd_ne (fun z => by
      obtain ⟨oc, h1, h2⟩ := hc
      subst z
      rw [ha] at h1
      cases h1
      rw [hd] at h2
      cases h2)]
    exact I.freeC x c e
  pin := fun p hp => by
    obtain ⟨h1, h2, h3, h4, h5⟩ := I.pin p hp
    exact ⟨h1, by rw [upd_ne (np p hp)]; exact h2, h3, h4, h5⟩
  hok := fun b u e => by
    by_cases hb : b = a
    · subst hb
      rw [upd_same] at e
      cases e
      exact new
    · rw [upd_ne hb] at e
      exact (I.hok b u e).stay (fun _ _ _ q => q) (fun c q => by rw [upd_ne (ne_of_none q na)]; exact q) fun c xs q => by rw [upd_ne (ne_of_none q na)]; exact q
  len := I.len
end
end Pw
namespace Pw
open PySem L2 PySem.Spec PyProof.Rows
/-- the classes that a clause lists -/
inductive Nms (X : Cx) : List Expr → List Value → Prop
  | nil : Nms X [] []
  | cons {x : Str} {c : Value} {p : Pos} {es : List Expr} {cs : List Value} : Names X x c → Nms X es cs → Nms X (.Name x p :: es) (c :: cs)
section
variable {X : Cx} {a : Addr}
theorem nm_run {x : Str} {c : Value} {np : Pos} {pn : List (Addr × Obj)} {σ : L2.St} {H : Hp} {s : Shared} {Q : Value → Shared → Prop} {E : Value → Shared → Prop} (N : Names X x c) (S : Inv (X.suite a pn) [] σ H s) (q : Q c s) :
    wpAny (model X.prog X.w) (X.A.mark (some (.ref a))) (eval (.Name x np) X.env) Q E s := by
  obtain ⟨g, db, e | ⟨e, hv, hn⟩⟩ := N
  · exact ld_glob (X := X.suite a pn) S g e q db
  · exact ld_blt (X := X.suite a pn) S g e hv q hn db
theorem nms_run {es : List Expr} {cs : List Value} {pos : Pos} {pn : List (Addr × Obj)} {σ : L2.St} {H : Hp} {s : Shared} {E : Value → Shared → Prop} (N : Nms X es cs) (S : Inv (X.suite a pn) [] σ H s) :
    ∀ {Q : List Value → Shared → Prop}, Q cs s → wpAny (model X.prog X.w) (X.A.mark (some (.ref a))) (spliced (backTo pos (starEach es X.env))) Q E s := by
  induction N with
  | nil => exact fun q => wpAny_items_nil q
  | cons n _ ih => exact fun q => wpAny_items_cons (nm_run n S (ih q))
theorem fly_more {B h : Heap} {l : List Env} {Z : Obj → Prop} {h' : Heap} (k : ∀ b o, h.get? b = some o → h'.get? b = some o) (F : HandSPX.FlyingZ B l a Z h) : HandSPX.FlyingZ B l a Z h' := by
  obtain ⟨f1, f2, f3, oe, vs, T, oT, ts, g1, g2, g3, g4, g5, g6, g7, g8, g9⟩ := F
  exact ⟨fun b o e => k b o (f1 b o e), f2, f3.of_keeps fun b o e _ => ⟨o, k b o e, rfl⟩, oe, vs, T, oT, ts, k _ _ g1, g2, g3, g4, g5, g6, k _ _ g7, g8, g9⟩
/-- what a list of classes wishes of an exception; where it is caught it is held in the slot j -/
def wKeep (K : Fg) (cs : List Value) (i j : Nat) (Wout : WX) (D : Ends) : WX := fun cls d σ H =>
  ∃ b, PySem.W.exmAny K cls cs = some b ∧ (b = true → ∀ a, H a = none → D.nx (((σ.set i (some (.ref a))).set j (some (.ref a))).set i none) (upd H a (exk cls d a))) ∧ (b = false → Wout cls d σ H)
theorem keep_ok {u v : Str} {i j : Nat} {p1 p2 p3 : Pos} {pins : List (Addr × Obj)} {σ : L2.St} {H : Hp} {s : Shared} {cls : Value} {d : Option Addr} {D : Ends} {E0 : Value → Shared → Prop} {pos : Pos} {oe : Obj} {vs : Array Value} {h : Heap}
    (hN : X.N.Nodup) (hi : X.N[i]? = some u) (hu : X.env.kindOf u = some .local) (hj : X.N[j]? = some v) (hv : X.env.kindOf v = some .local) (ud : (u == ("__debug__" : Str)) = false) (uc : (u == ("__classdict__" : Str)) = false) (sw : swapsWith (.Name u p2) (some (.Name v p1)) p3.line X.env = pure false)
    (J : Inv X pins σ H { s with heap := h }) (he : h.get? a = some oe) (hz : Zc cls d oe) (hd : oe.data = .fields vs) (na : H a = none) (nL : a ≠ X.env.locals) (nF : a ∉ X.fs) (n0 : ∀ o, X.s_0.heap.get? a = some o → a ∈ X.ex) (np : ∀ p ∈ X.pn ++ pins, p.1 ≠ a)
    (q : D.nx (((σ.set i (some (.ref a))).set j (some (.ref a))).set i none) (upd H a (exk cls d a))) :
    wpAny (model X.prog X.w) (X.A.mark (some (.ref a))) (storeName X.env u (.ref a)) (fun _ s₂ => wpAny (model X.prog X.w) (X.A.mark (some (.ref a))) (execs [.Assign [.Name v p1] (.Name u p2) p3] X.env)
      (fun f s₃ => wpAny (model X.prog X.w) X.A (do bindName X.env u .none; unbindBehindTheSuite X.env u pos) (fun _ s₄ => SP X pins D f s₄) X.xe s₃) (fun _ _ => False) s₂) E0 { s with heap := h } := by
  have S := J.suite he hd na nL nF
  have hil : i < σ.length := by
    have := (List.getElem?_eq_some_iff.mp hi).1
    rw [J.len]
    exact this
  refine store_ok (X := X.suite a ((a, oe) :: (X.pn ++ pins))) (v := .ref a) S hN hi (.inl hu) rfl (fun s5 S5 => ?_) (.inr hu)
  have st : PSs (X.suite a ((a, oe) :: (X.pn ++ pins))) [.Assign [.Name v p1] (.Name u p2) p3] (tAsg (tVar i) (gName j)) := pss_one (ps_set hN hj (.inl hv) (pe_var hi (.inl hu) ud uc) sw (.inr hv))
  refine wpAny_mono (st.run [] s5 _ H { nx := fun σ6 H6 => σ6 = (σ.set i (some (.ref a))).set j (some (.ref a)) ∧ H6 = H, rt := fun _ _ => False } S5 ⟨.ref a, List.getElem?_set_self hil, rfl, rfl⟩) (fun f s6 z => ?_) (fun _ _ z => z)
  cases f with
  | next =>
    obtain ⟨σ6, H6, S6, rfl, rfl⟩ := z
    refine gone_ok (X := X.suite a ((a, oe) :: (X.pn ++ pins))) S6 hN hi hu fun s7 S7 => ?_
    have P := (S7.pin (a, oe) (List.mem_append_left _ List.mem_cons_self)).1
    exact ⟨_, _, inv_join (S7.unsuite J.ok) P hd na nL n0 np (exk_ok P hz hd), q⟩
  | ret _ => obtain ⟨_, _, _, _, _, f⟩ := z; exact f.elim
  | brk => obtain ⟨_, _, _, f⟩ := z; exact f.elim
  | cont => obtain ⟨_, _, _, f⟩ := z; exact f.elim
/-- try: body, except (A, B, ..) as u: v = u -/
theorem ps_try_keep {u v : Str} {i j : Nat} {body : List Stmt} {es : List Expr} {cs : List Value} {kk : Nat} {tp p1 p2 p3 pos pos' : Pos} {tb : WX → TS} {Wout : WX}
    (e1 : X.stack = X.env :: X.outer) (e2 : X.env.frame = some X.env.locals) (hN : X.N.Nodup) (hi : X.N[i]? = some u) (hu : X.env.kindOf u = some .local) (hj : X.N[j]? = some v) (hv : X.env.kindOf v = some .local) (N : Nms X es cs) (tk : Takes X Wout)
    (bo : ∀ (W : WX) (pn : List (Addr × Obj)) (xe : Value → Shared → Prop), Takes (X.tr pn xe) W → PassesOwn (model X.prog X.w) X.A X.env xe → PSs (X.tr pn xe) body (tb W))
    (ud : (u == ("__debug__" : Str)) = false := by decide) (uc : (u == ("__classdict__" : Str)) = false := by decide) (sw : swapsWith (.Name u p2) (some (.Name v p1)) p3.line X.env = pure false := by rfl) (hl : cs.length ≤ 100 := by decide) :
    PS X (.Try body [.ExceptHandler (some (.Tuple es kk tp)) (some u) [.Assign [.Name v p1] (.Name u p2) p3] pos'] [] [] pos) (fun D σ H => tb (wKeep X.K cs i j Wout D) D σ H) := by
  refine ⟨fun pins s σ H D I h => ?_⟩
  have fr1 : X.A.frames = some (X.env :: X.outer) := by rw [I.ok.frames, e1]
  refine wpAny_Try_except ?_
  let XE' : Value → Shared → Prop := fun e t1 => wpAny (model X.prog X.w) X.A (noteFrame e X.env) (fun _ t2 => wpAny (model X.prog X.w) X.A (setFlight e none) (fun _ t3 =>
    wpAny (model X.prog X.w) X.A (handleBy e X.env [.ExceptHandler (some (.Tuple es kk tp)) (some u) [.Assign [.Name v p1] (.Name u p2) p3] pos']) (SP X pins D) X.xe t3) X.xe t2) X.xe t1
  have took : Takes (X.tr (X.pn ++ pins) XE') (wKeep X.K cs i j Wout D) := by
    rintro _ s' ⟨a, B, sI, pins', σ', H', cls, d, rfl, J', nb, up, sky, na, os, ag, b, hb, yes, no⟩
    have J : Inv X pins σ' H' sI := J'.ofTry I.ok
    have sky' : Sky B (X.env :: X.outer) a (Zc cls d) X.env.locals s'.heap := by rw [← e1]; exact sky
    show wpAny (model X.prog X.w) X.A (noteFrame (.ref a) X.env) _ _ _
    refine Sky.land Zc.steady fr1 e2 sky' fun g3 F3 up3 => ?_
    have inB : B.get? a = none := F3.2.1
    have outF : a ∉ frs (X.env :: X.outer) := fun m => by
      obtain ⟨oe, vs, g1, _, g2⟩ := F3.there
      obtain ⟨_, o', e', z⟩ := F3.2.2.1.mem m
      rw [g1] at e'
      cases e'
      exact z _ g2
    have nI : sI.heap.get? a = none := by
      cases e : sI.heap.get? a with
      | none => rfl
      | some o =>
        have := nb a o e (by rw [e1]; exact outF)
        rw [inB] at this
        cases this
    have nL : a ≠ X.env.locals := fun z => outF (List.mem_filterMap.mpr ⟨X.env, List.mem_cons_self, by rw [e2, z]⟩)
    have nF : a ∉ X.fs := fun m => by
      obtain ⟨e, he, q⟩ := List.mem_filterMap.mp m
      exact outF (List.mem_filterMap.mpr ⟨e, List.mem_cons_of_mem _ he, q⟩)
    have n0 : ∀ o, X.s_0.heap.get? a = some o → a ∈ X.ex := fun o e => Classical.byContradiction fun hx => by
      obtain ⟨o', z⟩ := J.base.there a o e hx
      rw [nI] at z
      cases z
    have np : ∀ p ∈ X.pn ++ pins, p.1 ≠ a := fun p hp z => by
      have := (J.pin p hp).1
      rw [z, nI] at this
      cases this
    have up2 := up.trans up3
    have J3 : Inv X pins σ' H' { s' with heap := g3 } := J.landed nb F3.1 up2 os ag
    obtain ⟨oe3, vs3, y1, y2, y3⟩ := F3.there
    refine wpAny_handleBy_cons (codeAny_handlers_test ?_) (by intro q; cases q)
    have S3 := J3.suite y1 y3 na nL nF
    refine wpAny_Tuple (nms_run N S3 ⟨Nat.le_trans hl (by rw [sizeLine_eq]; decide), ?_⟩)
    have kp : ∀ b o, g3.get? b = some o → (g3.push { cls := .type "tuple", data := .seq cs.toArray }).get? b = some o := fun _ _ z => Heap.get?_push_of_some _ z
    have LT : PySem.W.Looks (model X.prog X.w) (g3.push { cls := .type "tuple", data := .seq cs.toArray }) (typeOf (.ref a)) cls := fun A Q E t k q => wpAny_typeOf_ref (k _ _ (kp _ _ y1)) (by rw [y2.1]; exact q)
    have LM := exm_tupN (M := model X.prog X.w) (J3.kIn.keeps kp) LT (Heap.get?_push_size g3 rfl) hb
    refine LM.here ?_
    have F4 := fly_more kp F3
    have up4 : s'.heap.UpToSlots (g3.push { cls := .type "tuple", data := .seq cs.toArray }) := fun b o e z => by
      obtain ⟨sl, y⟩ := up3 b o e z
      exact ⟨sl, kp _ _ y⟩
    cases b with
    | true =>
      refine codeAny_handlers_suite_as ?_
      refine HandSPX.lands_againZ F4 fun g5 F5 up5 => ?_
      have J5 : Inv X pins σ' H' { s' with heap := g5 } := J.landed nb F5.1 ((up.trans up4).trans up5) os ag
      obtain ⟨oe5, vs5, x1, x2, x3⟩ := F5.there
      exact wpAny_mono (keep_ok (p3 := p3) (pos := pos') hN hi hu hj hv ud uc sw J5 x1 x2 x3 na nL nF n0 np (yes rfl a na)) (fun _ _ z => wpAny_mono z (fun _ _ z => z) (fun _ _ z => z.elim)) (fun _ _ z => z)
    | false =>
      show wpAny _ X.A (handleBy (.ref a) X.env []) _ _ _
      refine wpAny_handleBy_nil ?_
      have F4' := F4
      obtain ⟨_, _, _, oe, vs, T, oT, ts, w1, w2, w3, w4, _⟩ := F4'
      unfold PySem.passOn
      refine wpAny_bind (wpAny_field w1 w3 w4 ?_)
      rw [if_neg (show ¬ ((Value.ref T == Value.none) = true) from by simp)]
      have on : wpAny (model X.prog X.w) X.A (setFlight (.ref a) X.env.frame) (fun _ t => wpAny (model X.prog X.w) X.A (throw (.ref a) : Sem Flow) (SP X pins D) X.xe t) X.xe { s' with heap := g3.push { cls := .type "tuple", data := .seq cs.toArray } } := by
        rw [e2]
        refine HandSPX.setFlight_upZ F4 fun g5 F5 up5 => wpAny_throw (tk _ _ ?_)
        exact ⟨a, B, sI, pins, σ', H', cls, d, rfl, J, nb, (up.trans up4).trans up5, .inr (.inr (by rw [e1]; exact F5)), na, os, ag, no rfl⟩
      first
        | exact wpAny_bind (wpAny_pure (wpAny_bind on))
        | exact wpAny_bind on
  refine wpAny_mono ((bo (wKeep X.K cs i j Wout D) (X.pn ++ pins) XE' took PassesOwn.looking).run [] s σ H D (I.toTry _) h) (fun f s1 z => ?_) (fun _ _ z => z)
  cases f with
  | next =>
    obtain ⟨_, _, J', q⟩ := z
    exact wpAny_execs_nil ⟨_, _, J'.ofTry I.ok, q⟩
  | brk =>
    obtain ⟨_, _, J', q⟩ := z
    exact ⟨_, _, J'.ofTry I.ok, q⟩
  | cont =>
    obtain ⟨_, _, J', q⟩ := z
    exact ⟨_, _, J'.ofTry I.ok, q⟩
  | ret _ =>
    obtain ⟨_, _, _, J', r, q⟩ := z
    exact ⟨_, _, _, J'.ofTry I.ok, r, q⟩
end
end Pw
/-! own errors over any built-in class, their __init__ keeping one field -/
namespace Pw
open PySem L2 PySem.Spec PyProof.Rows
/-- an own class of errors whose chain of built-in classes is tl -/
structure Oxg (K : Fg) (C : Addr) (tl : List Value) (newId : String) : Prop where
  base : ∃ B initId, ExcBaseFacts B newId initId tl
  thru : ∀ self, refuseLoop self "__setattr__" tl = pure ()
  obj : tl.contains (.type "object") = true
  cls : ∃ nm q N bs sn sub ab col dd k0 k1 k2 k3 k5, K.lookup C = some (excClassObj nm q C N bs tl true sn sub ab col dd k0 k1 k2 k3 k5 newId)
  sa : PySem.W.findIn K (.ref C) "__setattr__" = some (some (.builtin "object.__setattr__"))
  exC : PySem.W.subIn K (.ref C) (.type "BaseException") = some true
  tyC : PySem.W.typeIn K (.ref C) = some (.type "type")
  kC : PySem.W.keepIn K (.ref C) = true
theorem Oxg.data {K : Fg} {C : Addr} {tl : List Value} {newId : String} (T : Oxg K C tl newId) : ∃ cd, PySem.W.clsIn K C = some cd ∧ cd.mro = .ref C :: tl ∧ cd.hasDict = true := by
  obtain ⟨nm, q, N, bs, sn, sub, ab, col, dd, k0, k1, k2, k3, k5, hC⟩ := T.cls
  refine ⟨{ name := nm, bases := bs, mro := .ref C :: tl, ns := N, qualname := q, hasDict := true, slotNames := sn, subclasses := sub, abstract := ab, collection := col, hasDel := false }, ?_, rfl, rfl⟩
  unfold PySem.W.clsIn
  rw [hC] <;> rfl
end Pw
namespace PySem
open PySem.W PySem.Calls PyProof.Rows Builtin Builtin.ObjectAttr
section
variable {prog : Program} {w : World} {A : Around} {R : Result → Shared → Prop} {hp : Heap} {g : Array GenState} {d : Drawn} {t : Nat} {os : OsState}
/-- the first field of an own error -/
theorem osa_first {K : W.Frag} {name : Str} {tk : Tok} {v : Value} {x C : Addr} {tl : List Value} {newId : String} {fv : Array Value} (T : Pw.Oxg K C tl newId) (X : K.In hp) (hx : hp.get? x = some { cls := .ref C, data := .fields fv }) (no : W.findIn K (.ref C) name = some none)
    (q : ∀ h' tk' dx, (∀ b o, b ≠ x → hp.get? b = some o → h'.get? b = some o) → hp.objs.size ≤ dx → dx ≠ x → h'.get? x = some { cls := .ref C, dict := some dx, data := .fields fv } → h'.Ns1 dx (fun y => if y = name then some v else none) → R (.ok (.ret .none)) ⟨h', g, d, tk', os⟩) :
    codeAny (model prog w) A (.call (.builtin "object.__setattr__") ⟨[.ref x, .str name tk, v], []⟩) R ⟨hp, g, d, t, os⟩ := by
  obtain ⟨cd, hcd, hm, hd⟩ := T.data
  have I : W.InstAt hp x { cls := .ref C, data := .fields fv } C none := ⟨hx, rfl, rfl, trivial⟩
  have far : x ≠ hp.objs.size := Nat.ne_of_lt (Heap.lt_size hx)
  have is : W.Looks (model prog w) hp (isInstance (.ref x) (.type "object")) true := I.type.andThen (W.looks_mroIn X (by
    have ho : (Value.ref C :: tl).contains (.type "object") = true := by rw [List.contains_cons, T.obj, Bool.or_true]
    unfold W.mroIn; rw [hcd, Option.bind_some, hm, if_neg (show ¬ (List.isEmpty (Value.ref C :: tl) = true) from Bool.false_ne_true), ho]))
  refine codeAny_call_builtin F.store_object.slot.plain F.store_object.entry (@W.check_slot (model prog w) _ _ ⟨hp, g, d, t, os⟩ "object.__setattr__" "object" "__setattr__" (.ref x) [.str name tk, v] [] _ F.store_object.kind F.store_object.split is (F.store_object.args (.ref x) (.str name tk) v) ?_)
  have chain : W.Looks (model prog w) hp (mroOf (.ref C)) cd.mro := (W.looks_clsIn X hcd).andThen .now
  have taker : W.Looks (model prog w) hp (storeTaker? none) none := .now
  have cls : W.Looks (model prog w) hp (classData C) cd := W.looks_clsIn X hcd
  have thru : refuseLoop (.ref x) "__setattr__" cd.mro = pure () := by rw [hm, refuseLoop_ref]; exact T.thru _
  rw [W.osa_eq, refuse_eq]
  refine wpAny_bind (wpAny_bind (I.type.at (wpAny_bind (chain.at ?_))))
  rw [thru]
  refine wpAny_pure (wpAny_bind (I.type.at (wpAny_bind ((W.looks_findIn X no).at (wpAny_bind (taker.at ?_))))))
  show wpAny _ _ (storeInOwnDict (.ref x) (.ref C) (.str name tk) name v false) _ _ _
  obtain ⟨c1, c2, c3, c4, c5, c6, c7, c8, c9, c10, c11⟩ := cd
  have hd' : c6 = true := hd
  subst hd'
  unfold storeInOwnDict ownDictForStores; repeat (first | with_reducible refine HandSPX.store_in_new ?_ ?_ | with_reducible refine wpAny_loadPart_at hx ?_ | with_reducible refine cls.at ?_ | wp_step)
  · exact ⟨_, #[], _, (Heap.get?_update_ne _ _ _ _ far.symm).trans (Heap.get?_push_at rfl rfl), rfl, fun e z => absurd z (by simp), fun _ => rfl⟩
  · intro h' tk' ns sb
    have old : (hp.push { cls := .type "dict", data := .dict #[] }).get? x = some { cls := .ref C, data := .fields fv } := Heap.get?_push_of_some _ hx
    exact q h' tk' hp.objs.size (fun b o nb ho => (sb.2 b (Nat.ne_of_lt (Heap.lt_size ho))).trans ((Heap.get?_update_ne _ _ _ _ nb).trans (Heap.get?_push_of_some _ ho))) (Nat.le_refl _) far.symm ((sb.2 x far).trans (Heap.get?_update_self _ old rfl)) ns
end
end PySem
namespace Pw
open PySem L2 PySem.Spec PyProof.Rows
section
variable {X : Cx} {pins : List (Addr × Obj)} {σ : L2.St} {H : Hp} {s : Shared}
/-- self.f = y, the first field -/
theorem field_ok {A : Around} {E : Value → Shared → Prop} {a C : Addr} {tl : List Value} {newId : String} {f : Str} {y : V} {u : Value} {Q : Unit → Shared → Prop} (T : Oxg X.K C tl newId) (I : Inv X pins σ H s) (e : H a = some (exo a C none)) (no : PySem.W.findIn X.K (.ref C) f = some none) (ry : RelV y u)
    (q : ∀ dx s', H dx = none → dx ≠ a → Inv X pins σ (upd (upd H dx (exd dx [(f, y)])) a (exo a C (some dx))) s' → Q () s') : wpAny (model X.prog X.w) A (setAttr (.ref a) f u) Q E s := by
  obtain ⟨t1, ho⟩ := exo_at I.hok e
  obtain ⟨hp, g, d, t, os⟩ := s
  have J : PySem.W.InstAt hp a { cls := .ref C, dict := none, data := .fields #[.ref t1, .none, .none, .none, .bool false, .none] } C none := ⟨ho, rfl, rfl, trivial⟩
  refine PySem.W.set_plain I.kIn J T.sa (osa_first T I.kIn ho no fun h' tk' dx k dn ne hx hn => ?_)
  have nd0 : H dx = none := I.hok.fresh dn
  have oldNe : ∀ {b : Addr} {o : Obj}, hp.get? b = some o → b ≠ dx := fun {b o} z => Nat.ne_of_lt (Nat.lt_of_lt_of_le (Heap.lt_size z) dn)
  have freeNe : ∀ {b : Addr}, H b = none → b ≠ a := fun {b} n z => by rw [z, e] at n; cases n
  have put : ∀ {b : Addr} {o : HO}, H b = some o → o ≠ exo a C none → (upd (upd H dx (exd dx [(f, y)])) a (exo a C (some dx))) b = some o := fun {b o} z n => by
    rw [upd_ne (fun w => n (by rw [w, e] at z; exact (Option.some.inj z).symm)), upd_ne (ne_of_none z nd0)]
    exact z
  have thr : ∀ b o, hp.get? b = some o → ∃ o', h'.get? b = some o' := fun b o z => by
    by_cases hb : b = a
    · subst hb
      exact ⟨_, hx⟩
    · exact ⟨o, k b o hb z⟩
  have U : Un X.fs [] H (upd (upd H dx (exd dx [(f, y)])) a (exo a C (some dx))) hp h' :=
    ⟨fun b o z n _ _ => k b o (freeNe n) z, fun b o z n _ _ => ⟨o.slots, k b o (freeNe n) z⟩, fun b o z n _ => by rw [upd_ne (freeNe n), upd_ne (oldNe z)]; exact n,
      fun b o z _ => thr b o z, fun b xs z => put z (Ne.symm exo_tup), fun b o v z => put z (Ne.symm exo_frz), fun b ps z => ⟨#[], by rw [put z (Ne.symm exo_tbl)]; simp⟩⟩
  refine q dx _ nd0 ne (I.un (t' := tk') U fun b o z => ?_)
  by_cases hb : b = a
  · subst hb
    rw [upd_same] at z
    cases z
    exact exo_ok hx
  · rw [upd_ne hb] at z
    by_cases hd : b = dx
    · subst hd
      rw [upd_same] at z
      cases z
      exact exd_ok hn (relO_put (fs := []) ry fun _ => True.intro)
    · rw [upd_ne hd] at z
      refine (I.hok b o z).stay (fun c v hc w => k c v ?_ w) (fun c hc => put hc (Ne.symm exo_own)) fun c xs hc => put hc (Ne.symm exo_tup)
      rcases hc with hc | hc
      · rw [hc]
        exact hb
      · exact fun w => by
          rw [w, e] at hc
          exact exo_own (Option.some.inj hc)
def tFirst (K : Fg) (f : Str) (to te : TE) : TS := fun D σ H => te σ H fun y H1 => to σ H1 fun x H2 => ∃ (a C : Addr) (tl : List Value) (newId : String), x = .ref a ∧ Oxg K C tl newId ∧ PySem.W.findIn K (.ref C) f = some none ∧ H2 a = some (exo a C none) ∧
  ∀ dx, H2 dx = none → dx ≠ a → D.nx σ (upd (upd H2 dx (exd dx [(f, y)])) a (exo a C (some dx)))
theorem ps_first {o e : Expr} {to te : TE} {f : Str} {p' pos : Pos} (ho : PE X o to) (he : PE X e te) (sw : swapsWith e (some (.Attribute o f p')) pos.line X.env = pure false := by rfl) : PS X (.Assign [.Attribute o f p'] e pos) (tFirst X.K f to te) :=
  ⟨fun pins s σ H D I h => plainObj_wpAny_Assign_Attribute (thn (he.run pins s σ H _ I h) fun v s1 ⟨y, H1, I1, r1, q1⟩ => thn (ho.run pins s1 σ H1 _ I1 q1) fun u s2 ⟨x, H2, I2, r2, a, C, tl, nw, ex, T, no, ea, q⟩ => by
    subst ex
    obtain rfl : u = Value.ref a := r2
    exact field_ok T I2 ea no r1 fun dx s' n ne J => ⟨σ, _, J, q dx n ne⟩) sw⟩
/-- C(e, ..), as ExcInit's rule says it, over any built-in class -/
theorem pmk_first {CX : CXT} {x : Str} {C fI : Addr} {tl : List Value} {newId : String} {k : Nat} {fd : FuncData} {ps : List Str} {sp : Sp} {ds : List Value} {dvs : List V} {e : Expr} {es : List Expr} {ta : TA} {p pos : Pos} (T : Oxg X.K C tl newId) (iC : PySem.W.findIn X.K (.ref C) "__init__" = some (some (.ref fI)))
    (tI : PySem.W.typeIn X.K (.ref fI) = some (.type "function")) (G : FnOk X.prog X.w X.K X.mg X.base CX k fI fd ps sp) (hr : Room (k + 1) X.A) (hb : Binds X.K fd ps ds) (hd : Vals dvs ds) (pass : Passes CX X (fun _ _ _ => False)) (hg : Gl X x) (hm : X.mg x = some (.ref C)) (ha : PA X (e :: es) ta)
    (db : (x == ("__debug__" : Str)) = false := by decide) (st : starEach (e :: es) X.env = (false, eval e X.env) :: starEach es X.env := by rfl) (pl : (backTo pos (starEach es X.env)).any (·.1) = false := by rfl) : PMk X (.Call (.Name x p) (e :: es) [] pos) (tMkO C sp dvs ta) := by
  intro pins s σ H Q I h
  obtain ⟨B, initId, FB⟩ := T.base
  obtain ⟨nm, q, N, bs, sn, sub, ab, col, dd, k0, k1, k2, k3, k5, hC⟩ := T.cls
  refine wpAny_Call_Name_kw (ld_glob I hg hm (PySem.W.callWith_K (h₀ := X.base) I.ok.mod.kin T.kC (thn (ha.run pos pins s σ H _ I h) fun us s1 ⟨vs, H1, I1, r1, hz, q1⟩ => ⟨I1.kIn, ?_⟩) st pl) db)
  show wpAny _ _ (call (.ref C) us) _ _ _
  obtain ⟨hp, g, dr, tk, os⟩ := s1
  have up1 : hp.objs.size ≤ hp.objs.size + 1 := Nat.le_succ _
  have ask := q1 (hp.objs.size + 1) (I1.hok.fresh up1)
  have keep2 : ∀ b o, hp.get? b = some o → ((hp.push (PySem.W.kdv_tup us)).push (PySem.HandSPX.excO C hp.objs.size)).get? b = some o := fun b o z => Heap.get?_push_of_some _ (Heap.get?_push_of_some _ z)
  have made : ((hp.push (PySem.W.kdv_tup us)).push (PySem.HandSPX.excO C hp.objs.size)).get? (hp.objs.size + 1) = some (PySem.HandSPX.excO C hp.objs.size) := by heap_get
  have I2 : Inv X pins σ (upd H1 (hp.objs.size + 1) (exo (hp.objs.size + 1) C none)) ⟨(hp.push (PySem.W.kdv_tup us)).push (PySem.HandSPX.excO C hp.objs.size), g, dr, tk, os⟩ := I1.laid (t' := tk) (a := hp.objs.size + 1) keep2 up1 (exo_ok made)
  have r2 : Vals (V.ref (hp.objs.size + 1) :: (vs ++ dvs)) (Value.ref (hp.objs.size + 1) :: (us ++ ds)) := .cons rfl (r1.append hd)
  have few : (Value.ref (hp.objs.size + 1) :: us ++ ds).length = ps.length := r2.length.symm.trans (G.len _ _ _ _ ask)
  have short : us.length ≤ sizeLine := by rw [← Paired.length r1, sizeLine_eq]; omega
  refine wpAny_call (PySem.HandSPX.call_own FB (fun _ => rfl) (I1.kIn _ _ hC) (PySem.W.looks_findIn I1.kIn iC) (fun self => PySem.W.bind_fn I1.kIn self tI) short (codeAny_mono (G.run _ X.stack _ _ ⟨Value.ref (hp.objs.size + 1) :: us, []⟩ (Value.ref (hp.objs.size + 1) :: (us ++ ds)) _ _ (fun _ _ _ => False)
    (hr.make C us []) (I2.env0.make C us []) (hb _ (Value.ref (hp.objs.size + 1) :: us) I2.kIn few) r2 ask) fun r s' z => ?_))
  cases r with
  | error er => exact pass pins σ _ _ er s' I2 z
  | ok fl =>
    cases fl with
    | ret u =>
      obtain ⟨v, H2, os2, bare2, un2, hok2, rv, ev, d, fs, ea, ed, hd1, q2⟩ := z
      subst ev
      obtain ⟨h2, g2, d2, t2, os'⟩ := s'
      exact ⟨rv, mk_end (raises_own T.exC T.tyC) I1 up1 keep2 un2 hok2 os2 bare2 ea ed hd1 q2⟩
    | next => exact z.elim
    | brk => exact z.elim
    | cont => exact z.elim
end
end Pw
/-! what is asked of a held error -/
namespace Pw
open PySem L2 PySem.Spec PyProof.Rows
structure Exg (K : Fg) (C : Addr) : Prop where
  ga : PySem.W.findIn K (.ref C) "__getattribute__" = some (some (.builtin "BaseException.__getattribute__"))
  gg : PySem.W.findIn K (.ref C) "__getattr__" = some none
  su : PySem.W.subIn K (.ref C) (.type "BaseException") = some true
  hd : PySem.W.hasDictIn K C = true
  cl : (PySem.W.clsIn K C).isSome = true
  ca : PySem.W.findIn K (.ref C) "__class__" = some (some (.builtin "object.__class__"))
  cg : PySem.W.specialIn K (.builtin "object.__class__") "__get__" = some (some (.builtin "getset_descriptor.__get__"))
  tk : PySem.W.takesIn K (.builtin "object.__class__") = some true
  ob : PySem.W.mroIn K C (.type "object") = some true
/-- a held error at a: its class, its dict -/
def HE (H : Hp) (a C : Addr) (d : Option Addr) : Prop := H a = some (exk (.ref C) d a) ∧ ∀ dx, d = some dx → ∃ fs, H dx = some (.xd fs)
section
variable {X : Cx} {pins : List (Addr × Obj)} {σ : L2.St} {H : Hp} {s : Shared}
theorem he_inst {a C : Addr} {d : Option Addr} (I : Inv X pins σ H s) (h : HE H a C d) : ∃ oe od, PySem.W.InstAt s.heap a oe C od := by
  obtain ⟨oe, vs, e, z, hd⟩ := exk_at I.hok h.1
  cases d with
  | none => exact ⟨oe, none, e, z.1, by unfold PySem.W.notCls; rw [hd] <;> rfl, by rw [z.2]; trivial⟩
  | some dx =>
    obtain ⟨fs, ef⟩ := h.2 dx rfl
    obtain ⟨mA, hns, _⟩ : ObjOk X.prog X.w H s.heap dx (.xd fs) := I.hok dx _ ef
    obtain ⟨od, ho, _⟩ := lookIn_ns hns
    exact ⟨oe, some od, e, z.1, by unfold PySem.W.notCls; rw [hd] <;> rfl, by rw [z.2]; exact ho⟩
def rIsX (K : Fg) : List V → Hp → VK → Prop := fun xs H Q => ∃ (a C : Addr) (d : Option Addr) (c : V) (cv : Value) (b : Bool), xs = [.ref a, c] ∧ ClsV c cv ∧ HE H a C d ∧ Exg K C ∧ PySem.W.kitOne K (.ref C) cv = some b ∧ Q (.bl b) H
def rIsXT (K : Fg) : List V → Hp → VK → Prop := fun xs H Q => ∃ (a C : Addr) (d : Option Addr) (tp : Addr) (cs : List V) (us : List Value) (b : Bool), xs = [.ref a, .ref tp] ∧ H tp = some (.tup cs) ∧ Paired ClsV cs us ∧ HE H a C d ∧ Exg K C ∧ PySem.W.kitAny K (.ref C) us = some b ∧ Q (.bl b) H
theorem cb_isX : CallR X (.builtin "isinstance") (rIsX X.K) := by
  rintro pins s σ H xs us Q I r ⟨a, C, d, c, cv, b, rfl, k, he, T, e, q⟩
  obtain ⟨u1, u2, rfl, r1, r2⟩ := vals2 r
  cases k.eq r2
  cases (show u1 = Value.ref a from r1)
  obtain ⟨oe, od, J⟩ := he_inst I he
  exact PySem.W.kia_one (PySem.W.kitx_exc (od := od) T.cl T.ga T.gg T.su T.ca T.cg T.tk T.ob) I.kIn J e (fun z => nomatch z) fun tk => ⟨.bl b, H, I.tok tk, rfl, q⟩
theorem cb_isXT : CallR X (.builtin "isinstance") (rIsXT X.K) := by
  rintro pins s σ H xs us Q I r ⟨a, C, d, tp, cs, ws, b, rfl, hT, k, he, T, e, q⟩
  obtain ⟨u1, u2, rfl, r1, r2⟩ := vals2 r
  cases (show u2 = Value.ref tp from r2)
  cases (show u1 = Value.ref a from r1)
  obtain ⟨oe, od, J⟩ := he_inst I he
  obtain ⟨_, its, rv, ⟨oc, od2, dt, sl⟩, h1, h2, n, h3⟩ := (show ObjOk X.prog X.w H s.heap tp (.tup cs) from I.hok tp _ hT)
  cases ClsV.all k rv
  simp only at h2 h3
  subst h2 h3
  exact PySem.W.kia_tup (PySem.W.kitx_exc (od := od) T.cl T.ga T.gg T.su T.ca T.cg T.tk T.ob) I.kIn J h1 e (fun z => nomatch z) fun tk => ⟨.bl b, H, I.tok tk, rfl, q⟩
def tXg (K : Fg) (f : Str) (te : TE) : TE := fun σ H Q => te σ H fun x H1 => ∃ (a C dx : Addr) (fs : List (Str × V)) (v : V), x = .ref a ∧ Exg K C ∧ PySem.W.findIn K (.ref C) f = some none ∧ H1 a = some (exk (.ref C) (some dx) a) ∧ H1 dx = some (.xd fs) ∧ fs.lookup f = some v ∧ Q v H1
theorem pe_xg {e : Expr} {te : TE} {pos : Pos} {n : Str} (he : PE X e te) (ab : attributeBase e n X.env (eval e X.env) = eval e X.env := by rfl) : PE X (.Attribute e n pos) (tXg X.K n te) :=
  ⟨fun pins s σ H Q I h => attr_of ab (thn (he.run pins s σ H _ I h) fun u s1 ⟨x, H1, I1, rx, a, C, dx, fs, v, ex, T, no, ea, ed, lf, q⟩ => by
    subst ex
    obtain rfl : u = Value.ref a := rx
    obtain ⟨oe, vs, e1, z, hd⟩ := exk_at I1.hok ea
    obtain ⟨mA, hns, rel⟩ : ObjOk X.prog X.w H1 s1.heap dx (.xd fs) := I1.hok dx _ ed
    obtain ⟨od, ho, hl⟩ := lookIn_ns hns
    obtain ⟨u, hu, ru⟩ := RelO.some_of (v := v) (o := mA n) (by rw [← lf]; exact rel n)
    have J : PySem.W.InstAt s1.heap a oe C (some od) := ⟨e1, z.1, by unfold PySem.W.notCls; rw [hd] <;> rfl, by rw [z.2]; exact ho⟩
    exact HandSPX.exc_get I1.kIn J T.ga T.gg T.su (PySem.W.findObj_own T.hd no rfl (by rw [hl, hu])) (handed_of ru) ⟨v, H1, I1.tok _, ru, q⟩)⟩
end
end Pw
/-! defs that may raise; a try that holds the error -/
namespace Pw
open PySem L2 PySem.Spec PyProof.Rows
abbrev Gx := List Dx → Sto → Value → Option (Str × PyData) → Sto → Prop
def Exk (K : Fg) (M : List Addr) (s' : Sto) (cls : Value) (fo : Option (Str × PyData)) (H : Hp) (E : XK) : Prop := ∀ d H', Same (hid M H) (hid M H') → So K M s' H' → XD K M H' d fo → E cls d H'
def spX (K : Fg) (R : Gr) (RX : Gx) : Sp := fun vs H Q E => ∃ M xs s, So K M s H ∧ RXs K M H vs xs ∧ ((∃ x s', R xs s x s' ∧ Okk K M s' x H Q) ∨ ∃ cls fo s', RX xs s cls fo s' ∧ Exk K M s' cls fo H E)
theorem spX_len {K : Fg} {R : Gr} {RX : Gx} {l : Nat} (h : ∀ xs s x s', R xs s x s' → xs.length = l) (h2 : ∀ xs s c f s', RX xs s c f s' → xs.length = l) : ∀ vs H Q E, spX K R RX vs H Q E → vs.length = l := fun vs H Q E ⟨_, _, _, _, hr, q⟩ => by
  rcases q with ⟨_, _, r, _⟩ | ⟨_, _, _, r, _⟩
  · exact hr.len.trans (h _ _ _ _ r)
  · exact hr.len.trans (h2 _ _ _ _ _ r)
section
variable {K : Fg} {ρ ρ' : En} {s s1 s2 s3 : Sto} {x y z : Dx} {xs ys zs : List Dx} {ta tb te : TE} {tas tks : TA} {t u : TT} {b c : Bool} {n m i j : Nat} {X : Cx} {cls : Value} {fo : Option (Str × PyData)} {E : L2.St → XK}
  {M0 M : List Addr} {H0 H H1 : Hp} {F : Kp} {D : Ends} {σ : L2.St} {P : L2.St → Hp → Prop} {tu tw : TS} {R : Gr} {RX : Gx}
theorem Exk.step {M : List Addr} {H H1 : Hp} {E : XK} (q : Exk K M s cls fo H E) (e : Same (hid M H) (hid M H1)) : Exk K M s cls fo H1 E := fun d H2 e2 => q d H2 (e.trans e2)
/-- the expression raises -/
def Evx (K : Fg) (te : TE) (E : L2.St → XK) (ρ : En) (s : Sto) (cls : Value) (fo : Option (Str × PyData)) (s' : Sto) : Prop := ∀ M σ H, So K M s H → RE K M H σ ρ → Exk K M s' cls fo H (E σ) → ∀ Q : VK, te σ H Q
theorem ev_callS (ha : Eva K tas ρ s xs s1) (hR : R xs s1 z s2) : Ev K (tCallS (spX K R RX) E tas) ρ s z s2 := fun M σ H S Re Q q => ha M σ H S Re _ fun vs H1 e1 S1 r1 => ⟨M, xs, s1, S1, r1, .inl ⟨z, s2, hR, q.step e1⟩⟩
theorem evx_callS (ha : Eva K tas ρ s xs s1) (hR : RX xs s1 cls fo s2) : Evx K (tCallS (spX K R RX) E tas) E ρ s cls fo s2 := fun M σ H S Re q Q => ha M σ H S Re _ fun vs H1 e1 S1 r1 => ⟨M, xs, s1, S1, r1, .inr ⟨cls, fo, s2, hR, q.step e1⟩⟩
def tCallKS (l : Nat) (sp : Sp) (gV : List V → List V) (E : L2.St → XK) (tk : TA) : TE := fun σ H Q => tk σ H fun zs H1 => zs.length = l ∧ sp (gV zs) H1 Q (E σ)
theorem ev_callKS {gV : List V → List V} {l : Nat} (hk : Eva K tks ρ s ys s1) (hl : ys.length = l) (hg : ∀ M H zs, RXs K M H zs ys → RXs K M H (gV zs) xs) (hR : R xs s1 z s2) : Ev K (tCallKS l (spX K R RX) gV E tks) ρ s z s2 := fun M σ H S Re Q q =>
  hk M σ H S Re _ fun zs H1 e1 S1 r1 => ⟨r1.len.trans hl, M, xs, s1, S1, hg M H1 zs r1, .inl ⟨z, s2, hR, q.step e1⟩⟩
theorem evx_callKS {gV : List V → List V} {l : Nat} (hk : Eva K tks ρ s ys s1) (hl : ys.length = l) (hg : ∀ M H zs, RXs K M H zs ys → RXs K M H (gV zs) xs) (hR : RX xs s1 cls fo s2) : Evx K (tCallKS l (spX K R RX) gV E tks) E ρ s cls fo s2 := fun M σ H S Re q Q =>
  hk M σ H S Re _ fun zs H1 e1 S1 r1 => ⟨r1.len.trans hl, M, xs, s1, S1, hg M H1 zs r1, .inr ⟨cls, fo, s2, hR, q.step e1⟩⟩
theorem evx_if (h : EvT K t ρ s b s1) (h1 : b = true → Evx K ta E ρ s1 cls fo s2) (h2 : b = false → Evx K tb E ρ s1 cls fo s2) : Evx K (tIf t ta tb) E ρ s cls fo s2 := fun M σ H S Re q Q => h M σ H S Re _ fun H1 e S1 => by
  cases b with
  | true => exact h1 rfl M σ H1 S1 (Re.mono e) (q.step e) Q
  | false => exact h2 rfl M σ H1 S1 (Re.mono e) (q.step e) Q
/-- what a wish on errors wants at a frame -/
def Wx (K : Fg) (M0 : List Addr) (H0 : Hp) (F : Kp) (W : WX) (ρ : En) (s : Sto) (cls : Value) (fo : Option (Str × PyData)) : Prop := ∀ M σ H d, Rl K M0 H0 F M s ρ σ H → XD K M H d fo → W cls d σ H
theorem w_asgX {V : WX} {tg : TG} (h : Evx K te (WE V) ρ s cls fo s1) (k : Wx K M0 H0 F V ρ s1 cls fo) : W K M0 H0 F (tAsg te tg D) ρ s := fun M σ H R => h M σ H R.so R.re (fun d H' e S x => k M σ H' d (R.step e S) x) _
theorem w_retX {V : WX} (h : Evx K te (WE V) ρ s cls fo s1) (k : Wx K M0 H0 F V ρ s1 cls fo) : W K M0 H0 F (tRet te D) ρ s := fun M σ H R => h M σ H R.so R.re (fun d H' e S x => k M σ H' d (R.step e S) x) _
/-- out of the def -/
theorem wx_out {E : XK} (hl : s.length = M0.length) (q : Exk K M0 s cls fo H0 E) : Wx K M0 H0 F (fun c d _ H => E c d H) ρ s cls fo := fun M σ H d R x => by
  obtain ⟨N, hM, _⟩ := id R.ext
  have e : N = [] := by
    have := R.so.len
    rw [hM, List.length_append, hl] at this
    exact List.eq_nil_of_length_eq_zero (by omega)
  subst e
  rw [List.append_nil] at hM
  subst hM
  exact q d H R.same R.so x
/-- one listed class takes it -/
theorem wx_keep {cs : List Value} {V : WX} (he : PySem.W.exmAny K cls cs = some true) (k : W K M0 H0 F D.nx (((ρ.set i (some (.exc cls fo))).set j (some (.exc cls fo))).set i none) s) : Wx K M0 H0 F (wKeep K cs i j V D) ρ s cls fo := fun M σ H d R x =>
  ⟨true, he, fun _ a na => by
    have e : Same (hid M H) (hid M (upd H a (exk cls d a))) := hid_new na
    have R1 := R.step e (R.so.new na)
    have ao : a ∉ M := R.so.free na
    have rx : RX K M (upd H a (exk cls d a)) (.ref a) (.exc cls fo) := ⟨a, d, rfl, by rw [hid_out ao, upd_same], x.up e⟩
    have R2 := (R1.set (n := i) rx).set (n := j) rx
    refine k M _ _ ⟨R2.ext, R2.same, R2.so, ⟨by simpa using R2.re.len, fun l y hy => ?_⟩, R2.kp⟩
    by_cases c : i = l
    · subst c
      by_cases hlt : i < ((ρ.set i (some (.exc cls fo))).set j (some (.exc cls fo))).length
      · rw [List.getElem?_set_self hlt] at hy
        cases hy
      · rw [List.getElem?_eq_none (by simpa using hlt)] at hy
        cases hy
    · rw [List.getElem?_set_ne c] at hy ⊢
      exact R2.re.at_ l y hy, fun z => nomatch z⟩
/-- held errors asked -/
theorem o_isNX : Op2 K rIs (.exc cls fo) (.d .none) s (.d (.bool false)) s := fun M H v w S r1 r2 Q q => by
  obtain ⟨a, d, rfl, h, x⟩ := r1
  cases r2
  refine .inl ⟨rfl, ?_⟩
  rw [decide_eq_false (show ¬ V.ref a = V.non from fun z => nomatch z)]
  exact q.here S (.bl _)
theorem rx_he {a C : Addr} {d : Option Addr} {M : List Addr} {H : Hp} (h : hid M H a = some (exk (.ref C) d a)) (x : XD K M H d fo) : HE H a C d := ⟨(hid_some h).2, fun dx e => by
  cases x with
  | none => cases e
  | one h1 h2 => cases e; exact ⟨_, (hid_some h1).2⟩⟩
theorem ev_isX {C : Addr} {v : V} {cv : Value} (h : Ev K te ρ s (.exc (.ref C) fo) s1) (T : Exg K C) (k : ClsV v cv) (e : PySem.W.kitOne K (.ref C) cv = some b) : Ev K (tCB (rIsX K) (tCons te (tCons (tC v) tNil))) ρ s (.d (.bool b)) s1 := fun M σ H S Re Q q =>
  h M σ H S Re _ fun w H1 e1 S1 ⟨a, d, ew, h1, x⟩ => ⟨a, C, d, v, cv, b, by rw [ew], k, rx_he h1 x, T, e, (q.step e1).here S1 (.bl b)⟩
theorem ev_xg {C : Addr} {f : Str} {y : PyData} (h : Ev K te ρ s (.exc (.ref C) (some (f, y))) s1) (T : Exg K C) (no : PySem.W.findIn K (.ref C) f = some none) : Ev K (tXg K f te) ρ s (.d y) s1 := fun M σ H S Re Q q =>
  h M σ H S Re _ fun w H1 e1 S1 ⟨a, d, ew, h1, x⟩ => by
    cases x with
    | @one dx _ v _ g1 g2 => exact ⟨a, C, dx, _, v, ew, T, no, (hid_some h1).2, (hid_some g1).2, by simp [List.lookup], (q.step e1).here S1 g2⟩
/-! ### raising -/
def spIni (K : Fg) (C : Addr) (f : Str) : Sp := fun vs H Q _ => ∃ (a : Addr) (y : V) (tl : List Value) (nw : String), vs = [.ref a, y] ∧ Oxg K C tl nw ∧ PySem.W.findIn K (.ref C) f = some none ∧ H a = some (exo a C none) ∧
  ∀ dx, H dx = none → dx ≠ a → Q .non (upd (upd H dx (exd dx [(f, y)])) a (exo a C (some dx)))
def tRaise (C : Addr) (sp : Sp) (ta : TA) (V : WX) : TS := fun _ σ H => tMkO C sp [] ta σ H fun cls d H' => V cls d σ H'
theorem w_raise {C : Addr} {f : Str} {V : WX} {y : PyData} {tl : List Value} {nw : String} (T : Oxg K C tl nw) (no : PySem.W.findIn K (.ref C) f = some none) (ha : Eva K tas ρ s [.d y] s1) (k : Wx K M0 H0 F V ρ s1 (.ref C) (some (f, y))) : W K M0 H0 F (tRaise C (spIni K C f) tas V D) ρ s := fun M σ H R =>
  ha M σ H R.so R.re _ fun vs H1 e S1 r => by
    cases r with
    | @cons v _ _ _ h r =>
      cases r
      refine ⟨by simp, fun a na => ⟨a, v, tl, nw, rfl, T, no, upd_same, fun dx n ne => ?_⟩⟩
      rw [upd_ne ne] at n
      refine ⟨rfl, dx, [(f, v)], upd_same, ?_, n, ?_⟩
      · rw [upd_ne ne, upd_same]
      · have eq : upd (del (upd (upd (upd H1 a (exo a C none)) dx (exd dx [(f, v)])) a (exo a C (some dx))) a) dx (.xd [(f, v)]) = upd H1 dx (.xd [(f, v)]) := by
          funext b
          by_cases c1 : b = dx
          · rw [c1, upd_same, upd_same]
          · rw [upd_ne c1, upd_ne c1]
            by_cases c2 : b = a
            · rw [c2, del_same, na]
            · rw [del_ne c2, upd_ne c2, upd_ne c1, upd_ne c2]
        show V _ _ σ _
        rw [eq]
        have e2 : Same (hid M H1) (hid M (upd H1 dx (.xd [(f, v)]))) := hid_new n
        exact k M σ _ _ (R.step (e.trans e2) (S1.new n)) (.one (by rw [hid_out (S1.free n), upd_same]) (At.mono e2 _ _ h))
end
section
variable {P : Program} {w : World} {K : Fg} {mg : Str → Option Value} {base : Heap} {X : Cx}
/-- a def that may raise, called positionally; by keywords -/
structure CbX (P : Program) (w : World) (K : Fg) (mg : Str → Option Value) (base : Heap) (x : Str) (lv : Nat) (sp : Sp) : Prop where
  ex : ∃ (f : Addr) (fd : FuncData) (ps : List Str), mg x = some (.ref f) ∧ PySem.W.keepIn K (.ref f) = true ∧ FnOk P w K mg base (L2.CX P w) lv f fd ps sp ∧ Binds K fd ps []
structure CkX (P : Program) (w : World) (K : Fg) (mg : Str → Option Value) (base : Heap) (x : Str) (lv : Nat) (ks : List Str) (g : {α : Type} → List α → List α) (sp : Sp) : Prop where
  ex : ∃ (f : Addr) (fd : FuncData) (ps : List Str) (g' : List Value → List Value → List Value), mg x = some (.ref f) ∧ PySem.W.keepIn K (.ref f) = true ∧ FnOk P w K mg base (L2.CX P w) lv f fd ps sp ∧ KBn K fd ps 0 ks g' (fun _ zs => g zs)
theorem pe_cbX {fx : Str} {lv : Nat} {sp : Sp} {p pos : Pos} {e : Expr} {es : List Expr} {t : TA} {V : WX} (C : CbX X.prog X.w X.K X.mg X.base fx lv sp) (hr : Room lv X.A) (hg : Gl X fx) (tk : Takes X V) (ha : PA X (e :: es) t)
    (hdb : (fx == ("__debug__" : Str)) = false := by decide) (he : starEach (e :: es) X.env = (false, eval e X.env) :: starEach es X.env := by rfl)
    (hpl : (backTo pos (starEach es X.env)).any (·.1) = false := by rfl) : PE X (.Call (.Name fx p) (e :: es) [] pos) (tCallS sp (WE V) t) := by
  obtain ⟨f, fd, ps, h1, h2, h3, h4⟩ := C.ex
  exact pe_callS h3 hr hg h1 h2 h4 (fun σ => passAt tk σ) ha hdb he hpl
theorem pe_ckX {fx : Str} {lv : Nat} {ks : List Str} {g : {α : Type} → List α → List α} {sp : Sp} {p pos : Pos} {kws : List Keyword} {tk : TA} {V : WX} (C : CkX X.prog X.w X.K X.mg X.base fx lv ks g sp) (hr : Room lv X.A) (hg : Gl X fx) (to : Takes X V) (hkw : PK X kws tk)
    (hall : (backToKw pos (keywordEach kws X.env)).all (·.1.isSome) = true := by rfl) (hks : (backToKw pos (keywordEach kws X.env)).filterMap (·.1) = ks := by rfl) (hdb : (fx == ("__debug__" : Str)) = false := by decide)
    (hpl : ((backTo pos (starEach [] X.env)).any (·.1) || (backToKw pos (keywordEach kws X.env)).any (·.1.isNone)) = false := by rfl) : PE X (.Call (.Name fx p) [] kws pos) (tCallKS ks.length sp (fun zs => g zs) (WE V) tk) := by
  obtain ⟨f, fd, ps, g', h1, h2, h3, h4⟩ := C.ex
  refine ⟨fun pins s σ H Q I h => wpAny_Call_Name_kw (ld_glob I hg h1 (PySem.W.callWith_KW0 (h₀ := X.base) I.ok.mod.kin h2 hall (thn (hkw.run pos pins s σ H _ I h) fun ws s2 ⟨zs, H2, I2, rz, l2, q2⟩ => ⟨I2.kIn, ?_⟩) hpl) hdb)⟩
  rw [hks]
  have r2 := h4.rel (us := []) (vs := []) .nil rz
  refine wpAny_call (codeAny_mono (h3.run X.A X.stack s2 H2 ⟨[], ks.zip ws⟩ (g' [] ws) (g zs) Q (WE V σ) hr I2.env0 (h4.to s2 [] ws I2.kIn rfl (rz.length.symm.trans l2)) r2 q2) fun r s' z => ?_)
  cases r with
  | error e => exact passAt to σ pins H2 s2 e s' I2 z
  | ok fl =>
    cases fl with
    | ret u => exact I2.after z
    | next => exact z.elim
    | brk => exact z.elim
    | cont => exact z.elim
theorem ps_raiseF {CX : CXT} {x : Str} {C fI : Addr} {tl : List Value} {newId : String} {k : Nat} {fd : FuncData} {ps : List Str} {sp : Sp} {e : Expr} {es : List Expr} {ta : TA} {p pos pos' : Pos} {V : WX} (hc : X.calm = true) (tk : Takes X V) (T : Oxg X.K C tl newId) (iC : PySem.W.findIn X.K (.ref C) "__init__" = some (some (.ref fI)))
    (tI : PySem.W.typeIn X.K (.ref fI) = some (.type "function")) (G : FnOk X.prog X.w X.K X.mg X.base CX k fI fd ps sp) (hr : Room (k + 1) X.A) (hb : Binds X.K fd ps []) (pass : Passes CX X (fun _ _ _ => False)) (hg : Gl X x) (hm : X.mg x = some (.ref C)) (ha : PA X (e :: es) ta)
    (db : (x == ("__debug__" : Str)) = false := by decide) (st : starEach (e :: es) X.env = (false, eval e X.env) :: starEach es X.env := by rfl) (pl : (backTo pos (starEach es X.env)).any (·.1) = false := by rfl) :
    PS X (.Raise (some (.Call (.Name x p) (e :: es) [] pos)) none pos') (tRaise C sp ta V) := ps_raise hc tk (pmk_first T iC tI G hr hb .nil pass hg hm ha db st pl)
/-- the __init__ of such a class -/
theorem ok_ini {nm qual : Str} {st : Stmt} {f C : Addr} {fd : FuncData} {N : List Str} {a b fld : Str} {p1 p2 p3 p4 : Pos} (G : Fun K nm qual st f fd) (S : FnScope N [a, b] (defScope st)) (hb : defBody st = [.Assign [.Attribute (.Name a p1) fld p2] (.Name b p3) p4]) (h0 : N = [a, b])
    (da : (a == ("__debug__" : Str)) = false := by decide) (ca : (a == ("__classdict__" : Str)) = false := by decide) (db : (b == ("__debug__" : Str)) = false := by decide) (cb : (b == ("__classdict__" : Str)) = false := by decide)
    (va : ∀ X : Cx, X.env.scope = defScope st → Vis X.env.scope a ∧ Vis X.env.scope b) (sw : ∀ env : Env, swapsWith (.Name b p3) (some (.Attribute (.Name a p1) fld p2)) p4.line env = pure false := by intro _; rfl) : FnOk P w K mg base CX0 1 f fd [a, b] (spIni K C fld) := by
  refine G.ok S (fun vs H Q E ⟨_, _, _, _, e, _⟩ => by rw [e]; rfl) (fun cdv A outer s H vs Q E hr ⟨x, y, tl, nw, e, T, no, hx, q⟩ => ?_)
  subst e h0
  rw [hb]
  have v := va (cxOf CX0 P w K mg base [a, b] qual (defScope st) f cdv A outer s H E).nox rfl
  refine ⟨_, pss_one (ps_first (pe_var (i := 0) rfl v.1 da ca) (pe_var (i := 1) rfl v.2 db cb) (sw _)), ?_⟩
  exact ⟨y, rfl, .ref x, rfl, x, C, tl, nw, rfl, T, no, hx, fun dx n ne => q dx n ne⟩
theorem cbk_isX (hK : X.K = K := by rfl) : CallR X (.builtin "isinstance") (rIsX K) := hK ▸ cb_isX
theorem cbk_isXT (hK : X.K = K := by rfl) : CallR X (.builtin "isinstance") (rIsXT K) := hK ▸ cb_isXT
theorem pe_xgK {e : Expr} {te : TE} {pos : Pos} {n : Str} (he : PE X e te) (hK : X.K = K := by rfl) (ab : attributeBase e n X.env (eval e X.env) = eval e X.env := by rfl) : PE X (.Attribute e n pos) (tXg K n te) := hK ▸ pe_xg he ab
end
section
variable {K : Fg} {ρ : En} {s s1 : Sto} {te : TE} {fo : Option (Str × PyData)} {b : Bool}
theorem tup_isX {C : Addr} {vs : List V} {cvs : List Value} {tas : TA} (h : Ev K te ρ s (.exc (.ref C) fo) s1) (ht : ∀ σ H (Q : List V → Hp → Prop), Q vs H → tas σ H Q) (T : Exg K C) (k : Paired ClsV vs cvs) (hl : vs.length ≤ 1000) (e : PySem.W.kitAny K (.ref C) cvs = some b) :
    Ev K (tCB (rIsXT K) (tCons te (tCons (tTup tas) tNil))) ρ s (.d (.bool b)) s1 := fun M σ H S Re Q q =>
  h M σ H S Re _ fun w H1 e1 S1 ⟨a, d, ew, h1, x⟩ => ht σ H1 _ ⟨by first | exact hl | exact Nat.le_trans hl (by rw [sizeLine_eq]; decide), fun tp n => by
    have e2 : Same (hid M H1) (hid M (upd H1 tp (.tup vs))) := hid_new n
    have := rx_he (e2 _ _ h1) (x.up e2)
    exact ⟨a, C, d, tp, vs, cvs, b, by rw [ew], upd_same, k, this, T, e, (q.step (e1.trans e2)).here (S1.new n) (.bl b)⟩⟩
end
end Pw
namespace Pw
open PySem L2
section
variable {K : Fg} {ρ ρ' : En} {s s1 s2 s3 : Sto} {x y z : Dx} {te : TE} {ta : TA} {n m : Nat} {M0 M : List Addr} {H0 H : Hp} {F : Kp} {D : Ends} {X : Cx} {i j : Int}
theorem iop_addA : PIp X .Add (ipI fun i j => i + j) := ip_add
theorem o_iadd : Op2 K (ipI fun i j => i + j) (.d (.int i)) (.d (.int j)) s (.d (.int (i + j))) s := fun M H v w S r1 r2 Q q => by
  cases r1; cases r2
  exact ⟨i, j, rfl, rfl, q.here S (.int _)⟩
/-- for x in range(i, j, -1) -/
theorem w_forD {tb : TS} {i0 j0 : Int} (h : Eva K ta ρ s [.d (.int i0), .d (.int j0), .d (.int (-1))] s1) (a1 : -(2 ^ 62) ≤ i0) (a2 : i0 < 2 ^ 62) (b1 : -(2 ^ 62) ≤ j0) (b2 : j0 < 2 ^ 62) (I : Nat → En → Sto → Prop) (h0 : I 0 ρ s1)
    (hs : ∀ (i : Nat) ρ' s' (N : L2.St → Hp → Prop), i < (i0 - j0).toNat → I i ρ' s' → (∀ ρ2 s2, I (i + 1) ρ2 s2 → W K M0 H0 F N ρ2 s2) → W K M0 H0 F (tb { D with nx := N, ct := N, bk := D.nx }) (ρ'.set n (some (.d (.int (i0 - (i : Int)))))) s')
    (hd : ∀ ρ' s', I (i0 - j0).toNat ρ' s' → W K M0 H0 F D.nx ρ' s') : W K M0 H0 F (tFor (iRng3 ta) (gName n) tb D) ρ s := fun M σ H R => by
  refine h M σ H R.so R.re _ fun vs H1 e S r => ?_
  cases r with
  | cons r1 r =>
    cases r with
    | cons r2 r =>
      cases r with
      | cons r3 r =>
        cases r
        cases r1; cases r2; cases r3
        refine ⟨i0, j0, -1, (i0 - j0).toNat, rfl, RgC.neg a1 a2 b1 b2, ?_⟩
        refine for_rangeC (fun i σ H => ∃ M s ρ, Rl K M0 H0 F M s ρ σ H ∧ I i ρ s) ⟨M, _, _, R.step e S, h0⟩ (fun i σ H hi ⟨M, s, ρ, R, hI⟩ => ?_) (fun σ H ⟨M, s, ρ, R, hI⟩ => hd ρ s hI M σ H R)
        have e : i0 + (i : Int) * -1 = i0 - (i : Int) := by omega
        rw [e]
        exact hs i ρ s _ hi hI (fun ρ2 s2 h2 M σ H R => ⟨M, s2, ρ2, R, h2⟩) M _ _ (R.set (x := .d (.int (i0 - (i : Int)))) (.int _))
/-- a constant of the module -/
theorem ev_tref {T : Addr} {d : PyData} (h : ∀ H, At K H (.ref T) d) : Ev K (tC (.ref T)) ρ s (.d d) s := fun M σ H S R Q q => q.here S (h _)
end
end Pw
namespace Pw
open PySem L2
section
variable {K : Fg} {X : Cx} {s : Sto}
/-! ### texts: so many times, str and int of numbers, their length -/
def rMulS : R2 := fun x y H Q => ∃ a k, x = .str a ∧ y = .int k ∧ MulOk a k ∧ Q (.str (Txt.mul a k)) H
theorem op_mulS : OpR X (binaryOp .Mult) rMulS := by
  intro pins s σ H x y v u Q I rx ry h
  obtain ⟨a, k, rfl, rfl, ok, q⟩ := h
  obtain ⟨t, rfl⟩ := rx
  obtain ⟨t', rfl⟩ := ry
  exact PySem.SB.mul ok (fun t' tk => ⟨.str _, H, I.tok _, ⟨_, rfl⟩, q⟩)
theorem o_mulS {a : Str} {k : Int} (h : MulOk a k) : Op2 K rMulS (.d (.str a)) (.d (.int k)) s (.d (.str (Txt.mul a k))) s := fun M H v w S r1 r2 Q q => by
  cases r1; cases r2
  exact ⟨a, k, rfl, rfl, h, q.here S (.str _)⟩
def rStrI : List V → Hp → VK → Prop := fun xs H Q => ∃ i, xs = [.int i] ∧ i.natAbs.log2 < 1920 ∧ Q (.str (toString i)) H
theorem cb_strI : CallR X (.type "str") rStrI := call_str_int
theorem o_strI {i : Int} (h : i.natAbs.log2 < 1920) : OpC K rStrI [.d (.int i)] s (.d (.str (toString i))) s := fun M H vs S r Q q => by
  cases r with
  | cons h1 t =>
    cases t
    cases h1
    exact ⟨i, rfl, h, q.here S (.str _)⟩
def rIntS : List V → Hp → VK → Prop := fun xs H Q => ∃ a n, xs = [.str a] ∧ PySem.intText? a = some n ∧ a.length ≤ 640 ∧ Q (.int n) H
theorem cb_intS : CallR X (.type "int") rIntS := call_int_str
theorem o_intS {a : Str} {n : Int} (h : PySem.intText? a = some n) (hl : a.length ≤ 640) : OpC K rIntS [.d (.str a)] s (.d (.int n)) s := fun M H vs S r Q q => by
  cases r with
  | cons h1 t =>
    cases t
    cases h1
    exact ⟨a, n, rfl, h, hl, q.here S (.int _)⟩
end
/-- the text of a 1 and so many noughts is a number whose square is above what has no more figures than that -/
theorem zeros_val : ∀ (n : Nat) (a : Nat), (List.replicate n 48).foldl (fun acc c => acc * 10 + (c - 48)) a = a * 10 ^ n
  | 0, a => by simp
  | n + 1, a => by
    rw [List.replicate_succ, List.foldl_cons, zeros_val n, Nat.pow_succ]
    show (a * 10 + 0) * 10 ^ n = _
    rw [Nat.add_zero, Nat.mul_assoc, Nat.mul_comm 10]
theorem mul_zeros {h : Nat} (h1 : 1 ≤ h) : Txt.mul (Str.ofString "0") (h : Int) = SX.S (List.replicate h 48) := by
  unfold Txt.mul
  rw [if_neg (by omega)]
  have e0 : (Str.ofString "0") = SX.S [48] := by decide +kernel
  rw [e0]
  by_cases c : h = 1
  · subst c
    rfl
  · rw [if_neg (by
      have : (SX.S [48]).length = 1 := rfl
      rw [this]
      simp
      omega), Int.toNat_natCast]
    have : ∀ (k : Nat) (acc : List Nat), List.foldl (fun x1 x2 => x1 ++ x2) acc.toArray (List.replicate k #[48]) = (acc ++ List.replicate k 48).toArray := by
      intro k
      induction k with
      | zero => intro acc; simp
      | succ k ih =>
        intro acc
        rw [List.replicate_succ, List.foldl_cons, show acc.toArray ++ #[48] = (acc ++ [48]).toArray by simp, ih, List.replicate_succ]
        simp
    have e := this h []
    rw [List.nil_append] at e
    exact congrArg Str.mk e
theorem one_zeros {h : Nat} (h1 : 1 ≤ h) (h2 : h ≤ 600) : PySem.intText? (Str.ofString "1" ++ SX.S (List.replicate h 48)) = some ((10 ^ h : Nat) : Int) ∧ (Str.ofString "1" ++ SX.S (List.replicate h 48)).length ≤ 640 := by
  have e0 : (Str.ofString "1") = SX.S [49] := by decide +kernel
  rw [e0]
  have e : SX.S [49] ++ SX.S (List.replicate h 48) = SX.S (49 :: List.replicate h 48) := by
    show Str.mk (_ ++ _) = Str.mk _
    simp
  rw [e]
  constructor
  · rw [SX.int_S (by simp) (by simp) (by simp; omega)]
    congr 1
    congr 1
    show (List.replicate h 48).foldl (fun acc c => acc * 10 + (c - 48)) (0 * 10 + (49 - 48)) = _
    rw [zeros_val]
    simp
  · show (49 :: List.replicate h 48).toArray.size ≤ 640
    simp
    omega
theorem num_len (n : Nat) : 1 ≤ (Str.ofString (toString ((n : Nat) : Int))).length ∧ n < 10 ^ (Str.ofString (toString ((n : Nat) : Int))).length ∧ ∀ k, 1 ≤ k → n < 10 ^ k → (Str.ofString (toString ((n : Nat) : Int))).length ≤ k := by
  have e : (Str.ofString (toString ((n : Nat) : Int))).length = (Nat.toDigits 10 n).length := by
    rw [show ((n : Nat) : Int) = Int.ofNat n from rfl, PyProof.Rows.text_ofNat]
    show (((Nat.toDigits 10 n).map Char.toNat).toArray).size = _
    simp
  rw [e]
  refine ⟨PyProof.Rows.tDigits_len_ge 10 n, ?_, fun k h1 h => PyProof.Rows.digits10_le h1 h⟩
  rcases Nat.lt_or_ge n (10 ^ (Nat.toDigits 10 n).length) with c | c
  · exact c
  · have := PyProof.Rows.digits10_ge c
    omega
end Pw
namespace Pw
open PySem L2
section
variable {K : Fg} {ρ ρ' : En} {s s1 s2 s3 : Sto} {x y z : Dx} {xs : List Dx} {te : TE} {tas ta : TA} {n m l : Nat} {M0 M : List Addr} {H0 H : Hp} {F : Kp} {D : Ends} {X : Cx} {i j : Int}
/-- a, b, c = e1, e2, e3 (no tuple) -/
theorem w_par3 (h : Eva K tas ρ s [x, y, z] s1) (k : W K M0 H0 F D.nx (((ρ.set n (some x)).set m (some y)).set l (some z)) s1) : W K M0 H0 F (tPar3 n m l tas D) ρ s := fun M σ H R =>
  h M σ H R.so R.re _ fun vs H1 e S r => by
    cases r with
    | cons h1 r =>
      cases r with
      | cons h2 r =>
        cases r with
        | cons h3 r =>
          cases r
          exact ⟨_, _, _, rfl, k M _ H1 ((((R.step e S).set h1).set h2).set h3)⟩
/-- a def of which only a relation is known between what is handed in and what is told: the asker is ready for each such answer -/
def spP (K : Fg) (R : Gr) : Sp := fun vs H Q _ => ∃ M xs s, (∃ x s', R xs s x s') ∧ So K M s H ∧ RXs K M H vs xs ∧ ∀ x s', R xs s x s' → Okk K M s' x H Q
theorem spP_len {R : Gr} {l : Nat} (h : ∀ xs s x s', R xs s x s' → xs.length = l) : ∀ vs H Q E, spP K R vs H Q E → vs.length = l := fun vs H Q E ⟨_, _, _, ⟨_, _, hR⟩, _, hr, _⟩ => hr.len.trans (h _ _ _ _ hR)
theorem w_asgP {R : Gr} {E : XK} (ha : Eva K tas ρ s xs s1) (hR : ∃ x s', R xs s1 x s') (k : ∀ x s2, R xs s1 x s2 → W K M0 H0 F D.nx (ρ.set n (some x)) s2) : W K M0 H0 F (tAsg (tCall (spP K R) [] E tas) (gName n) D) ρ s := fun M σ H Rl =>
  ha M σ H Rl.so Rl.re _ fun vs H1 e1 S1 r1 => ⟨M, xs, s1, hR, S1, by rw [List.append_nil]; exact r1, fun x s2 hx v H2 e2 S2 r2 => k x s2 hx M _ H2 ((Rl.step (e1.trans e2) S2).set r2)⟩
/-- for x in (.., ..) (a tuple) -/
theorem set_app {st : Sto} {ds : List PyData} {l : Nat} {X Y : List PyData} (h : l < st.length) : (st.set l X ++ [ds]).set l Y = st.set l Y ++ [ds] := by
  rw [List.set_append_left _ _ (by rw [List.length_set]; exact h), List.set_set]
theorem get_app2 {st : Sto} {ds : List PyData} {l : Nat} {X : List PyData} (h : l < st.length) : (st.set l X ++ [ds])[l]? = some X := by
  rw [List.getElem?_append_left (by rw [List.length_set]; exact h), List.getElem?_set_self h]
theorem get_last {st : Sto} {ds : List PyData} {l : Nat} {X : List PyData} : (st.set l X ++ [ds])[st.length]? = some ds := by
  rw [List.getElem?_append_right (by rw [List.length_set]; exact Nat.le_refl _), List.length_set, Nat.sub_self]
  rfl
theorem set_last {st : Sto} {ds es : List PyData} {l : Nat} {X : List PyData} : (st.set l X ++ [ds]).set st.length es = st.set l X ++ [es] := by
  rw [List.set_append_right _ _ (by rw [List.length_set]; exact Nat.le_refl _), List.length_set, Nat.sub_self]
  rfl
end
end Pw
namespace Pw
open PySem L2
section
variable {K : Fg} {ρ ρ' : En} {s s1 s2 s3 : Sto} {x y z : Dx} {xs : List Dx} {te tl : TE} {tas ta : TA} {tb : TS} {n m l : Nat} {M0 M : List Addr} {H0 H : Hp} {F : Kp} {D : Ends} {X : Cx} {i j : Int}
/-- what a target does with data -/
def Gb (K : Fg) (g : TG) (d : PyData) (b : En → En) : Prop := ∀ (M0 : List Addr) (H0 : Hp) (F : Kp) (M : List Addr) (s : Sto) (ρ : En) (σ : L2.St) (H : Hp) (v : V) (Q : L2.St → Hp → Prop), Rl K M0 H0 F M s ρ σ H → At K (hid M H) v d → (∀ σ', Rl K M0 H0 F M s (b ρ) σ' H → Q σ' H) → g v σ H Q
theorem gb_name {d : PyData} : Gb K (gName n) d (fun ρ => ρ.set n (some (.d d))) := fun M0 H0 F M s ρ σ H v Q R a q => q _ (R.set (x := .d d) a)
theorem gb_tup2 {g1 g2 : TG} {d1 d2 : PyData} {b1 b2 : En → En} (h1 : Gb K g1 d1 b1) (h2 : Gb K g2 d2 b2) : Gb K (gTup K 2 (gCons g1 (gCons g2 gNil))) (.tuple [d1, d2]) (fun ρ => b2 (b1 ρ)) := fun M0 H0 F M s ρ σ H v Q R a q => by
  cases a with
  | tup hs a =>
    cases a with
    | cons a1 a =>
      cases a with
      | cons a2 a =>
        cases a
        refine ⟨_, _, rfl, same_t hid_same hs, rfl, _, _, rfl, h1 M0 H0 F M s ρ σ H _ _ R a1 fun σ1 R1 => ⟨_, _, rfl, h2 M0 H0 F M s _ σ1 H _ _ R1 a2 fun σ2 R2 => ⟨rfl, q σ2 R2⟩⟩⟩
theorem gb_tup3 {g1 g2 g3 : TG} {d1 d2 d3 : PyData} {b1 b2 b3 : En → En} (h1 : Gb K g1 d1 b1) (h2 : Gb K g2 d2 b2) (h3 : Gb K g3 d3 b3) : Gb K (gTup K 3 (gCons g1 (gCons g2 (gCons g3 gNil)))) (.tuple [d1, d2, d3]) (fun ρ => b3 (b2 (b1 ρ))) := fun M0 H0 F M s ρ σ H v Q R a q => by
  cases a with
  | tup hs a =>
    cases a with
    | cons a1 a =>
      cases a with
      | cons a2 a =>
        cases a with
        | cons a3 a =>
          cases a
          refine ⟨_, _, rfl, same_t hid_same hs, rfl, _, _, rfl, h1 M0 H0 F M s ρ σ H _ _ R a1 fun σ1 R1 => ⟨_, _, rfl, h2 M0 H0 F M s _ σ1 H _ _ R1 a2 fun σ2 R2 => ⟨_, _, rfl, h3 M0 H0 F M s _ σ2 H _ _ R2 a3 fun σ3 R3 => ⟨rfl, q σ3 R3⟩⟩⟩⟩
/-- for .. in a tuple -/
theorem w_forT {g : TG} {ds : List PyData} (b : PyData → En → En) (hb : ∀ d ∈ ds, Gb K g d (b d)) (h : Ev K tl ρ s (.d (.tuple ds)) s1) (I : Nat → En → Sto → Prop) (h0 : I 0 ρ s1)
    (hs : ∀ v (i : Nat) d ρ' s' (N : L2.St → Hp → Prop), ds[i]? = some d → I i ρ' s' → (∀ ρ2 s2, I (i + 1) ρ2 s2 → W K M0 H0 ((v, .tuple ds) :: F) N ρ2 s2) → W K M0 H0 ((v, .tuple ds) :: F) (tb { D with nx := N, ct := N, bk := D.nx }) (b d ρ') s')
    (hd : ∀ ρ' s', I ds.length ρ' s' → W K M0 H0 F D.nx ρ' s') : W K M0 H0 F (tFor (iTup K tl) g tb D) ρ s := fun M σ H R => by
  refine h M σ H R.so R.re _ fun v H1 e S r => ?_
  replace R := (R.step e S).more r
  clear r S e
  generalize H1 = H at R ⊢
  have hv := R.kp _ (List.mem_cons_self ..)
  have hv0 : At K (hid M H) v (.tuple ds) := hv
  cases hv0 with
  | @tup a xs _ ha hxs =>
    refine ⟨a, rfl, ⟨xs, same_t hid_same ha⟩, fun i m σ H => m = ds.length - i ∧ i ≤ ds.length ∧ ∃ M s ρ, Rl K M0 H0 ((.ref a, .tuple ds) :: F) M s ρ σ H ∧ I i ρ s, ⟨_, rfl, Nat.zero_le _, M, _, _, R, h0⟩, ?_⟩
    rintro i m σ H ⟨rfl, hi, M, s, ρ, R, hI⟩
    have hv := R.kp _ (List.mem_cons_self ..)
    have hv0 : At K (hid M H) (.ref a) (.tuple ds) := hv
    cases hv0 with
    | @tup _ xs _ ha hxs =>
      have hS : SqT K H a xs := same_t hid_same ha
      by_cases c : i < ds.length
      · obtain ⟨w, hw, rw_⟩ := hxs.get (List.getElem?_eq_getElem c)
        refine .inr ⟨⟨xs, w, hS, hw⟩, fun σ H => ∃ M s ρ, Rl K M0 H0 ((.ref a, .tuple ds) :: F) M s ρ σ H ∧ I (i + 1) ρ s, fun σ' H' ⟨M, s, ρ, R, hI⟩ => ⟨ds.length - (i + 1), by omega, rfl, by omega, M, s, ρ, R, hI⟩, fun x H' ⟨e, hx⟩ => ?_⟩
        subst e
        have ex : x = w := Option.some.inj ((hx xs hS).symm.trans hw)
        subst ex
        refine hb _ (List.getElem_mem c) _ _ _ M s ρ σ _ _ _ R rw_ fun σ' R' => ?_
        exact hs (.ref a) i _ ρ s _ (List.getElem?_eq_getElem c) hI (fun ρ2 s2 h2 M σ H R => ⟨M, s2, ρ2, R, h2⟩) M _ _ R'
      · have e : i = ds.length := by omega
        subst e
        exact .inl ⟨⟨xs, hS, by rw [hxs.len]; exact Nat.le_refl _⟩, hd ρ s hI M σ H R.less⟩
end
end Pw
namespace Pw
open PySem L2 PyProof.Rows
section
variable {X : Cx} {e st : Expr} {te tk : TE} {p2 pos : Pos}
/-! ### e[::-1] -/
/-- a thing turned about -/
def RvR (X : Cx) (r : V → Hp → VK → Prop) : Prop := ∀ (pins : List (Addr × Obj)) (s : Shared) (σ : L2.St) (H : Hp) (x : V) (v : Value) (sl : Addr) (t : Tok) (Q : VK), Inv X pins σ H s → RelV x v → s.heap.IsSliceOf sl .none .none (.int (-1) t) → r x H Q →
  ∃ T id, typeLookup (.type T) "__getitem__" = pure (some (.builtin id)) ∧ s.TypeIs v T ∧ wpAny (model X.prog X.w) X.A (getItem v (.ref sl)) (EP X pins σ Q) X.xe s
def tRv (r : V → Hp → VK → Prop) (te : TE) (tk : TO) : TE := fun σ H Q => te σ H fun x H1 => tk σ H1 fun o H2 => o = some (-1) ∧ r x H2 Q
theorem pe_rev {r : V → Hp → VK → Prop} {tk : TO} (hr : RvR X r) (he : PE X e te) (hk : PO X (some st) tk) : PE X (.Subscript e (.Slice none none (some st) p2) pos) (tRv r te tk) := by
  refine ⟨fun pins s σ H Q I h => ?_⟩
  refine Subscript_ (thn (he.run pins s σ H _ I h) fun v s1 ⟨x, H1, I1, r1, q1⟩ => ?_)
  refine wpAny_Slice ?_
  rw [evalPart_none]
  refine wpAny_pure (wpAny_pure ?_)
  refine thn (hk.run pins s1 σ H1 _ I1 q1) fun vk s3 ⟨o, H3, I3, pk, eo, q3⟩ => ?_
  subst eo
  cases pk with
  | int i t =>
    have I4 : Inv X pins σ H3 { s3 with heap := s3.heap.push { cls := .type "slice", data := .fields #[.none, .none, .int (-1) t] } } := I3.kept (t' := s3.toks) fun b ob q => Heap.get?_push_of_some _ q
    obtain ⟨T, id, hT, ht, hg⟩ := hr pins _ σ H3 x v s3.heap.objs.size t Q I4 r1 (Heap.IsSliceOf.new ..) q3
    show wpAny (model X.prog X.w) X.A (subscriptTail e (.Slice none none (some st) p2) v (.ref s3.heap.objs.size)) (EP X pins σ Q) X.xe { s3 with heap := s3.heap.push { cls := .type "slice", data := .fields #[.none, .none, .int (-1) t] } }
    exact tail_any (ops := [v, .ref s3.heap.objs.size]) ht hT hg (by with_unfolding_all rfl)
def rRevS : V → Hp → VK → Prop := fun x H Q => ∃ a : List Nat, x = .str (SX.S a) ∧ a.length ≤ 1000000 ∧ Q (.str (SX.S a.reverse)) H
theorem rev_S (a : List Nat) (t : Tok) : Txt.sliceBy (SX.S a) none none (-1, t) = SX.S a.reverse := by
  refine TL.ext_tl ?_
  show (Txt.sliceBy (SX.S a) none none (-1, t)).cps.toList = a.reverse
  rw [step_rev_list, SX.S_len]
  refine List.ext_getElem? fun i => ?_
  by_cases h : i < a.length
  · rw [List.getElem?_map, List.getElem?_range h, List.getElem?_reverse h]
    have hj : a.length - 1 - i < a.length := by omega
    show some ((a.toArray).getD (a.length - 1 - i) 0) = _
    rw [List.getElem?_eq_getElem hj]
    simp [Array.getD, hj]
  · rw [List.getElem?_eq_none (by simp; omega), List.getElem?_eq_none (by simp; omega)]
theorem rv_str : RvR X rRevS := by
  intro pins s σ H x v sl t Q I rx hs h
  obtain ⟨a, rfl, hz, q⟩ := h
  obtain ⟨t', rfl⟩ := rx
  obtain ⟨os, hos, hcs, hds⟩ := hs
  refine ⟨"str", _, F.slot_str_getitem.lookup, typeIs_str _ _ _, ?_⟩
  refine wpAny_getItem_str_slice (l := none) (u := none) (st := some (-1, t)) ⟨os, hos, hcs, hds⟩ rfl ?_
  refine post_val_or_str ⟨?_, fun t2 c => ?_⟩
  · exact Nat.le_trans (Txt.sliceBy_le _ _ _ (-1, t) (by simp)) (by rw [SX.S_len, sizeLine_eq]; omega)
  · exact ⟨.str (SX.S a.reverse), H, I.tok _, ⟨t2, by rw [← rev_S a t]; rfl⟩, q⟩
/-- a list of one thing -/
def rRev1 : V → Hp → VK → Prop := fun x H Q => ∃ p v, x = .ref p ∧ H p = some (.lst [v]) ∧ ∀ p', H p' = none → Q (.ref p') (upd H p' (.lst [v]))
theorem rv_one : RvR X rRev1 := by
  intro pins s σ H x v sl t Q I rx hs h
  obtain ⟨p, w, rfl, hp, q⟩ := h
  cases rx
  obtain ⟨its, r, ht, hz⟩ := I.list (SqL.of hp)
  refine ⟨"list", _, slot_list_getitem.lookup, ht.isList.typeIs, ?_⟩
  refine wpAny_getItem_list_slice ht.isList hs .none .none (.int (-1) t) (by simp) ?_ (by rw [List.size_toArray, ← r.length] <;> omega)
  cases r with
  | @cons _ b _ _ r1 r2 =>
    cases r2
    have e1 : slicePick #[b] none none (some (-1)) = #[b] := by
      unfold slicePick
      simp [sliceBounds, sliceRange]
    show EP X pins σ Q _ { s with heap := s.heap.push { cls := .type "list", data := .seq (slicePick #[b] none none (some (-1))) } }
    rw [e1]
    refine ⟨.ref s.heap.objs.size, _, I.laid (t' := s.toks) (o := .lst [w]) (fun b ob q => Heap.get?_push_of_some _ q) (Nat.le_refl _) ?_, rfl, q _ (I.hok.fresh (Nat.le_refl _))⟩
    exact ⟨by rw [sizeLine_eq]; exact Nat.le_of_ble_eq_true rfl, _, 0, .cons r1 .nil, Heap.get?_push_size _ rfl⟩
end
end Pw
/-! texts as lists of signs: cut at one sign, the last one, so many of it, figures alone -/
namespace Ks
open PySem PySem.Builtin PySem.Builtin.Str SX
/-- what stands ahead of the first c, and behind it -/
def cut1 (c : Nat) : List Nat → Option (List Nat × List Nat)
  | [] => none
  | x :: r => if x = c then some ([], r) else (cut1 c r).map fun z => (x :: z.1, z.2)
def splt (c : Nat) : List Nat → List (List Nat)
  | [] => [[]]
  | x :: r => if x = c then [] :: splt c r else match splt c r with
    | h :: t => (x :: h) :: t
    | [] => [[x]]
def rcut (c : Nat) (l : List Nat) : Option (List Nat × List Nat) := (cut1 c l.reverse).map fun z => (z.2.reverse, z.1.reverse)
theorem cut1_some {c : Nat} : ∀ {l p q : List Nat}, cut1 c l = some (p, q) → l = p ++ c :: q ∧ c ∉ p
  | [], p, q, h => by cases h
  | x :: r, p, q, h => by
    unfold cut1 at h
    by_cases e : x = c
    · rw [if_pos e] at h
      cases h
      subst e
      exact ⟨rfl, by simp⟩
    · rw [if_neg e] at h
      cases hr : cut1 c r with
      | none => rw [hr] at h; cases h
      | some z =>
        rw [hr] at h
        cases h
        obtain ⟨h1, h2⟩ := cut1_some (p := z.1) (q := z.2) hr
        refine ⟨by rw [List.cons_append, ← h1], fun m => ?_⟩
        rcases List.mem_cons.mp m with m | m
        · exact e m.symm
        · exact h2 m
theorem cut1_none {c : Nat} : ∀ {l : List Nat}, cut1 c l = none → c ∉ l
  | [], _, m => by cases m
  | x :: r, h, m => by
    unfold cut1 at h
    by_cases e : x = c
    · rw [if_pos e] at h; cases h
    · rw [if_neg e] at h
      rcases List.mem_cons.mp m with m | m
      · exact e m.symm
      · cases hr : cut1 c r with
        | none => exact cut1_none hr m
        | some z => rw [hr] at h; cases h
theorem cut1_mk {c : Nat} : ∀ {p : List Nat} (q : List Nat), c ∉ p → cut1 c (p ++ c :: q) = some (p, q)
  | [], q, _ => by simp [cut1]
  | x :: p, q, h => by
    have e : x ≠ c := fun e => h (by rw [e]; exact List.mem_cons_self ..)
    rw [List.cons_append]
    unfold cut1
    rw [if_neg e, cut1_mk q (fun m => h (List.mem_cons_of_mem _ m))]
    rfl
theorem cut1_no {c : Nat} {l : List Nat} (h : c ∉ l) : cut1 c l = none := by
  cases e : cut1 c l with
  | none => rfl
  | some z =>
    obtain ⟨h1, _⟩ := cut1_some (p := z.1) (q := z.2) e
    exact absurd (by rw [h1]; simp) h
theorem splt_ne {c : Nat} : ∀ l : List Nat, splt c l ≠ []
  | [], h => by cases h
  | x :: r, h => by
    unfold splt at h
    split at h
    · cases h
    · split at h <;> cases h
theorem splt_no {c : Nat} : ∀ {l : List Nat}, c ∉ l → splt c l = [l]
  | [], _ => rfl
  | x :: r, h => by
    have e : x ≠ c := fun e => h (by rw [e]; exact List.mem_cons_self ..)
    unfold splt
    rw [if_neg e, splt_no (l := r) (fun m => h (List.mem_cons_of_mem _ m))]
theorem splt_mk {c : Nat} : ∀ {p : List Nat} (q : List Nat), c ∉ p → splt c (p ++ c :: q) = p :: splt c q
  | [], q, _ => by simp [splt]
  | x :: p, q, h => by
    have e : x ≠ c := fun e => h (by rw [e]; exact List.mem_cons_self ..)
    rw [List.cons_append]
    conv => lhs; unfold splt
    rw [if_neg e, splt_mk q (fun m => h (List.mem_cons_of_mem _ m))]
theorem spl_splt {c : Nat} : ∀ (n : Nat) (l : List Nat), l.length ≤ n → TL.spl [c] 0 [] l = splt c l
  | 0, [], _ => TL.spl_nil _ _ _
  | n + 1, l, hn => by
    cases e : cut1 c l with
    | none =>
      have h := cut1_none e
      rw [splt_no h, TL.spl_last1 h, List.nil_append]
    | some z =>
      obtain ⟨p, q⟩ := z
      obtain ⟨rfl, h⟩ := cut1_some e
      rw [splt_mk q h]
      have := TL.spl_part1 (s := c) (S := []) (p := p) (rest := q) (acc := []) h
      rw [List.nil_append] at this
      show TL.spl [c] 0 [] (p ++ ([c] ++ q)) = _
      rw [this, spl_splt n q (by simp at hn; omega)]
theorem split_c {c : Nat} {l : List Nat} (hc : c < 256) : Txt.split (S l) (S [c]) = (splt c l).map S := by
  rw [split_S (by simp) (by simp [hc]), spl_splt _ l (Nat.le_refl _)]
theorem part_some {c : Nat} {l p q : List Nat} (h : cut1 c l = some (p, q)) : Txt.partition (S l) (S [c]) = (S p, S [c], S q) := by
  obtain ⟨rfl, h2⟩ := cut1_some h
  refine partition_some (by simp) ?_
  exact par_head q h2
theorem part_none {c : Nat} {l : List Nat} (h : cut1 c l = none) : Txt.partition (S l) (S [c]) = (S l, S [], S []) := partition_none (by simp) (par_head_none (cut1_none h))
/-! the last one -/
theorem rcut_some {c : Nat} {l p q : List Nat} (h : rcut c l = some (p, q)) : l = p ++ c :: q ∧ c ∉ q := by
  unfold rcut at h
  cases e : cut1 c l.reverse with
  | none => rw [e] at h; cases h
  | some z =>
    rw [e] at h
    cases h
    obtain ⟨h1, h2⟩ := cut1_some (p := z.1) (q := z.2) e
    refine ⟨?_, by simpa using h2⟩
    have := congrArg List.reverse h1
    rw [List.reverse_reverse] at this
    rw [this]
    simp
theorem rcut_none {c : Nat} {l : List Nat} (h : rcut c l = none) : c ∉ l := by
  unfold rcut at h
  cases e : cut1 c l.reverse with
  | none => simpa using cut1_none e
  | some z => rw [e] at h; cases h
theorem rcut_mk {c : Nat} {p q : List Nat} (h : c ∉ q) : rcut c (p ++ c :: q) = some (p, q) := by
  unfold rcut
  rw [show (p ++ c :: q).reverse = q.reverse ++ c :: p.reverse by simp, cut1_mk _ (by simpa using h)]
  simp
theorem rcut_no {c : Nat} {l : List Nat} (h : c ∉ l) : rcut c l = none := by
  unfold rcut
  rw [cut1_no (by simpa using h)]
  rfl
theorem for_last {P : Nat → Prop} [DecidablePred P] : ∀ (L : List Nat) (st : Option Nat), (forIn (m := Id) L st fun i z => if P i then pure (ForInStep.yield (some i)) else pure (ForInStep.yield z)) = L.foldl (fun last i => if P i then some i else last) st
  | [], st => rfl
  | i :: L, st => by
    rw [List.forIn_cons, List.foldl_cons]
    by_cases h : P i
    · rw [if_pos h, if_pos h]
      exact for_last L _
    · rw [if_neg h, if_neg h]
      exact for_last L _
theorem fold_no {P : Nat → Prop} [DecidablePred P] : ∀ (L : List Nat) (st : Option Nat), (∀ i ∈ L, ¬ P i) → L.foldl (fun last i => if P i then some i else last) st = st
  | [], st, _ => rfl
  | i :: L, st, h => by
    rw [List.foldl_cons, if_neg (h i (List.mem_cons_self ..))]
    exact fold_no L st fun j hj => h j (List.mem_cons_of_mem _ hj)
theorem last_eq (s sub : Str) : lastOccurrence s sub 0 s.length = (List.range' 0 (s.length + 1)).foldl (fun last i => if i + sub.length ≤ s.length ∧ subAt s sub i = true then some i else last) none := by
  unfold lastOccurrence
  simp only [Id.run, Std.Legacy.Range.forIn_eq_forIn_range']
  simp
  exact for_last (P := fun i => i + sub.length ≤ s.length ∧ subAt s sub i = true) _ _
theorem at_one {c i : Nat} {l : List Nat} : (i + (S [c]).length ≤ (S l).length ∧ subAt (S l) (S [c]) i = true) ↔ l[i]? = some c := StrLaws.subAt_one (S l) c i
theorem last_some {c : Nat} {p q : List Nat} (h : c ∉ q) : lastOccurrence (S (p ++ c :: q)) (S [c]) 0 (S (p ++ c :: q)).length = some p.length := by
  rw [last_eq]
  have hl : (S (p ++ c :: q)).length + 1 = p.length + (1 + (q.length + 1)) := by rw [S_len]; simp; omega
  rw [hl, ← List.range'_append_1, ← List.range'_append_1, List.foldl_append, List.foldl_append]
  have h1 : List.range' (0 + p.length) 1 = [p.length] := by simp
  rw [h1]
  rw [fold_no (P := fun i => i + (S [c]).length ≤ (S (p ++ c :: q)).length ∧ subAt (S (p ++ c :: q)) (S [c]) i = true)]
  · rw [List.foldl_cons, List.foldl_nil, if_pos (at_one.mpr (by simp))]
  · intro i hi z
    have e := at_one.mp z
    rw [List.mem_range'_1] at hi
    rw [List.getElem?_append_right (by omega)] at e
    obtain ⟨k, hk⟩ : ∃ k, i - p.length = k + 1 := ⟨i - p.length - 1, by omega⟩
    rw [hk, List.getElem?_cons_succ] at e
    exact h (List.mem_of_getElem? e)
theorem last_none {c : Nat} {l : List Nat} (h : c ∉ l) : lastOccurrence (S l) (S [c]) 0 (S l).length = none := by
  rw [last_eq, fold_no (P := fun i => i + (S [c]).length ≤ (S l).length ∧ subAt (S l) (S [c]) i = true)]
  intro i _ z
  exact h (List.mem_of_getElem? (at_one.mp z))
theorem sub_S {l : List Nat} {i j : Nat} : strSub (S l) i j = S ((l.drop i).take (j - i)) := by
  refine TL.ext_tl ?_
  show (strSub (S l) i j).cps.toList = _
  unfold strSub
  simp [List.take_drop]
theorem rpart_some {c : Nat} {l p q : List Nat} (h : rcut c l = some (p, q)) : Txt.rpartition (S l) (S [c]) = (S p, S [c], S q) := by
  obtain ⟨rfl, h2⟩ := rcut_some h
  unfold Txt.rpartition
  rw [last_some h2]
  show (strSub _ 0 p.length, S [c], strSub _ (p.length + 1) _) = _
  rw [sub_S, sub_S, S_len]
  congr 2
  · congr 1; simp
  · congr 1
    simp
    exact List.take_of_length_le (by omega)
theorem rpart_none {c : Nat} {l : List Nat} (h : rcut c l = none) : Txt.rpartition (S l) (S [c]) = (S [], S [], S l) := by
  unfold Txt.rpartition
  rw [last_none (rcut_none h)]
  rfl
/-! figures -/
def isDg (c : Nat) : Bool := decide (48 ≤ c) && decide (c ≤ 57)
def dig (l : List Nat) : Bool := l.all isDg && !l.isEmpty
theorem dg_128 : ∀ c : Nat, c < 128 → Unicode.isDigit c = isDg c := by decide +kernel
theorem isascii_S (l : List Nat) : Txt.isascii (S l) = l.all (· < 128) := by
  unfold Txt.isascii
  show (l.toArray).all _ = _
  rw [← Array.all_toList]
theorem isdigit_S {l : List Nat} (h : l.all (· < 128) = true) : Txt.isdigit (S l) = dig l := by
  unfold Txt.isdigit dig
  rw [S_len]
  show (decide (0 < l.length) && (l.toArray).all _) = _
  rw [← Array.all_toList, Bool.and_comm]
  congr 1
  · show l.all Unicode.isDigit = l.all isDg
    rw [Bool.eq_iff_iff, List.all_eq_true, List.all_eq_true]
    rw [List.all_eq_true] at h
    exact ⟨fun a c hc => by rw [← dg_128 c (of_decide_eq_true (h c hc))]; exact a c hc, fun a c hc => by rw [dg_128 c (of_decide_eq_true (h c hc))]; exact a c hc⟩
  · cases l <;> simp
theorem dig_128 {l : List Nat} (h : dig l = true) : l.all (· < 128) = true := by
  unfold dig at h
  rw [Bool.and_eq_true, List.all_eq_true] at h
  rw [List.all_eq_true]
  intro c hc
  have := h.1 c hc
  unfold isDg at this
  simp at this
  simp
  omega
theorem tw_self {p : Nat → Bool} : ∀ {l : List Nat}, l.takeWhile p = l ↔ ∀ c ∈ l, p c = true
  | [] => by simp
  | x :: r => by
    rw [List.takeWhile_cons]
    cases e : p x with
    | true =>
      simp only [if_true, List.cons.injEq, true_and, List.mem_cons, forall_eq_or_imp, e]
      exact tw_self
    | false =>
      simp [e]
/-- strip of figures leaves nothing just of figures alone -/
theorem contains_digs (c : Nat) : (S [48, 49, 50, 51, 52, 53, 54, 55, 56, 57]).cps.contains c = isDg c := by
  rw [Bool.eq_iff_iff]
  unfold isDg
  simp
  omega
theorem strip_digs (l : List Nat) : (Txt.stripChars (S l) (S [48, 49, 50, 51, 52, 53, 54, 55, 56, 57])).length = 0 ↔ l.all isDg = true := by
  have hg : (S [48, 49, 50, 51, 52, 53, 54, 55, 56, 57]).cps.contains = isDg := funext contains_digs
  unfold Txt.stripChars Txt.stripBy
  rw [hg]
  have lo : stripLo isDg true (S l) = (l.takeWhile isDg).length := rfl
  by_cases ha : l.all isDg = true
  · have e1 : l.takeWhile isDg = l := tw_self.mpr (fun c hc => List.all_eq_true.mp ha c hc)
    refine ⟨fun _ => ha, fun _ => ?_⟩
    by_cases c : stripSame isDg true true (S l) = true
    · rw [if_pos c]
      unfold stripSame at c
      rw [Bool.and_eq_true, lo, e1] at c
      rw [S_len]
      exact eq_of_beq c.1
    · rw [if_neg c]
      unfold stripped
      rw [lo, e1, sub_S, S_len]
      simp
  · refine ⟨fun h => ?_, fun h => absurd h ha⟩
    exfalso
    -- a sign that's no figure stays
    have ex : ∃ c ∈ l, isDg c = false := by
      rw [List.all_eq_true] at ha
      exact Classical.byContradiction fun z => ha fun c hc => by
        cases e : isDg c with
        | true => rfl
        | false => exact absurd ⟨c, hc, e⟩ z
    obtain ⟨c, hc, ec⟩ := ex
    have hn : 0 < l.length := List.length_pos_of_mem hc
    by_cases sm : stripSame isDg true true (S l) = true
    · rw [if_pos sm, S_len] at h
      omega
    · rw [if_neg sm] at h
      unfold stripped at h
      rw [lo, sub_S, S_len] at h
      have hi : stripHi isDg true (S l) (l.takeWhile isDg).length = l.length - ((l.drop (l.takeWhile isDg).length).reverse.takeWhile isDg).length := by
        unfold stripHi
        rw [if_pos rfl, S_len]
      rw [hi] at h
      have dw : l.drop (l.takeWhile isDg).length = l.dropWhile isDg := by
        conv => lhs; rw [← List.takeWhile_append_dropWhile (p := isDg) (l := l)]
        conv => lhs; arg 1; rw [List.takeWhile_append_dropWhile]
        exact List.drop_left
      rw [dw] at h
      have ln : l.length = (l.takeWhile isDg).length + (l.dropWhile isDg).length := by
        conv => lhs; rw [← List.takeWhile_append_dropWhile (p := isDg) (l := l), List.length_append]
      -- the reversed rest has its last sign no figure
      have dn : l.dropWhile isDg ≠ [] := fun z => by
        have : l.takeWhile isDg = l := by
          conv => rhs; rw [← List.takeWhile_append_dropWhile (p := isDg) (l := l), z, List.append_nil]
        have h2 := tw_self.mp this c hc
        rw [h2] at ec
        cases ec
      have lt : ((l.dropWhile isDg).reverse.takeWhile isDg).length < (l.dropWhile isDg).length := by
        rcases Nat.lt_or_ge ((l.dropWhile isDg).reverse.takeWhile isDg).length (l.dropWhile isDg).length with q | q
        · exact q
        · exfalso
          have hall : (l.dropWhile isDg).reverse.takeWhile isDg = (l.dropWhile isDg).reverse := (List.takeWhile_prefix _).eq_of_length_le (by rw [List.length_reverse]; exact q)
          obtain ⟨x, r, exr⟩ : ∃ x r, l.dropWhile isDg = x :: r := by
            cases hh : l.dropWhile isDg with
            | nil => exact absurd hh dn
            | cons x r => exact ⟨x, r, rfl⟩
          have hx : isDg x = true := tw_self.mp hall x (by rw [exr]; simp)
          have := List.head?_dropWhile_not isDg l
          rw [exr] at this
          simp at this
          rw [hx] at this
          cases this
      rw [List.length_take] at h
      omega
theorem strip_cond (l : List Nat) : decide (Txt.stripChars (S l) (S [48, 49, 50, 51, 52, 53, 54, 55, 56, 57]) = S []) = l.all isDg := by
  rw [Bool.eq_iff_iff, decide_eq_true_eq, ← strip_digs]
  constructor
  · intro h
    rw [h]
    rfl
  · intro h
    generalize Txt.stripChars (S l) (S [48, 49, 50, 51, 52, 53, 54, 55, 56, 57]) = z at h
    obtain ⟨⟨a⟩⟩ := z
    have : a = [] := by
      have h : a.length = 0 := h
      exact List.eq_nil_of_length_eq_zero h
    subst this
    rfl
/-! - ahead -/
theorem prefix_S (l : List Nat) : Txt.removeprefix (S l) (S [45]) = S (match l with | 45 :: r => r | l => l) := by
  unfold Txt.removeprefix
  by_cases h : l.head? = some 45
  · obtain ⟨r, rfl⟩ : ∃ r, l = 45 :: r := by
      cases l with
      | nil => cases h
      | cons a r => cases h; exact ⟨r, rfl⟩
    have hs : subAt (S (45 :: r)) (S [45]) 0 = true := by
      rw [StrLaws.subAt_eq]
      simp [S, PySem.Str.length]
    rw [if_pos hs]
    show (if _ then S (45 :: r) else strSub (S (45 :: r)) _ _) = S r
    rw [if_neg (by rw [S_len, S_len]; simp), sub_S, S_len, S_len]
    simp
  · have hs : subAt (S l) (S [45]) 0 = false := by
      rw [StrLaws.subAt_eq]
      cases l with
      | nil => rfl
      | cons a r =>
        have : a ≠ 45 := fun z => h (by rw [z]; rfl)
        simp [S, PySem.Str.length, this]
    rw [if_neg (by rw [hs]; exact Bool.false_ne_true)]
    show S l = _
    cases l with
    | nil => rfl
    | cons a r =>
      have : a ≠ 45 := fun z => h (by rw [z]; rfl)
      congr 1
      split
      · rename_i e
        cases e
        exact absurd rfl this
      · rfl
end Ks
namespace Ks
open PySem PySem.Builtin PySem.Builtin.Str SX
/-! so many of one sign -/
theorem for_occ {P : Nat → Prop} [DecidablePred P] {lim : Nat} : ∀ (m a : Nat) (fd : Array Nat) (fr : Nat), fr ≤ a → fd.size + m ≤ lim →
    (forIn (m := Id) (List.range' a m) (fd, fr) fun i z => if (((z.1.size < lim ∧ z.2 ≤ i) ∧ P i) ) then pure (ForInStep.yield (z.1.push i, i + 1)) else pure (ForInStep.yield (z.1, z.2))).1.size = fd.size + (List.range' a m).countP (fun i => decide (P i))
  | 0, a, fd, fr, _, _ => rfl
  | m + 1, a, fd, fr, h, hm => by
    rw [List.range'_succ, List.forIn_cons, List.countP_cons]
    by_cases hp : P a
    · rw [if_pos ⟨⟨by show fd.size < lim; omega, h⟩, hp⟩]
      refine (for_occ m (a + 1) (fd.push a) (a + 1) (Nat.le_refl _) (by rw [Array.size_push]; omega)).trans ?_
      rw [Array.size_push, if_pos (decide_eq_true hp)]
      omega
    · rw [if_neg (fun z => hp z.2)]
      refine (for_occ m (a + 1) fd fr (by omega) (by omega)).trans ?_
      rw [if_neg (by simp [hp])]
      omega
theorem countP_get {c : Nat} : ∀ l : List Nat, (List.range' 0 (l.length + 1)).countP (fun i => decide (l[i]? = some c)) = l.count c
  | [] => by simp
  | x :: r => by
    have e : List.range' 0 ((x :: r).length + 1) = 0 :: (List.range' 0 (r.length + 1)).map (· + 1) := by
      rw [List.length_cons, List.range'_succ, List.range'_eq_map_range, List.range'_eq_map_range, List.map_map]
      congr 1
      refine List.map_congr_left fun i _ => ?_
      simp
      omega
    rw [e, List.countP_cons, List.countP_map, List.count_cons]
    have : ((fun i => decide ((x :: r)[i]? = some c)) ∘ fun i => i + 1) = fun i => decide (r[i]? = some c) := by
      funext i
      simp
    rw [this, countP_get r]
    simp
theorem count_S {c : Nat} {l : List Nat} : Txt.count (S l) (S [c]) = ((l.count c : Nat) : Int) := by
  unfold Txt.count
  congr 1
  unfold occurrences
  simp only [Id.run, Std.Legacy.Range.forIn_eq_forIn_range']
  simp
  have hl : (S l).length = l.length := S_len l
  have e := for_occ (P := fun i => l[i]? = some c) (lim := l.length + 1) (l.length + 1) 0 #[] 0 (Nat.le_refl _) (by simp)
  rw [countP_get] at e
  simp at e
  rw [← e, hl]
  have hc1 : (S [c]).length = 1 := rfl
  refine congrArg (fun z : Array Nat × Nat => z.1.size) (a₁ := forIn (m := Id) (List.range' 0 (l.length + 1)) (#[], 0) _) ?_
  congr 1
  funext i z
  have := at_one (c := c) (i := i) (l := l)
  rw [hl] at this
  have e2 : (((z.1.size < l.length + 1 ∧ z.2 ≤ i) ∧ i + (S [c]).length ≤ l.length) ∧ subAt (S l) (S [c]) i = true) = ((z.1.size < l.length + 1 ∧ z.2 ≤ i) ∧ l[i]? = some c) := propext ⟨fun h => ⟨h.1.1, this.mp ⟨h.1.2, h.2⟩⟩, fun h => ⟨⟨h.1, (this.mpr h.2).1⟩, (this.mpr h.2).2⟩⟩
  simp only [e2]
  rfl
end Ks
namespace Km
open PySem L2 Pw
/-! ### sizes -/
structure Sm (n : Nat) (i : Int) : Prop where
  lt : i.natAbs < 2 ^ n
theorem Sm.mono {n m : Nat} {i : Int} (h : Sm n i) (e : n ≤ m := by decide) : Sm m i := ⟨Nat.lt_of_lt_of_le h.lt (Nat.pow_le_pow_right (by decide) e)⟩
theorem Sm.mul {n m : Nat} {i j : Int} (h : Sm n i) (h' : Sm m j) : Sm (n + m) (i * j) := ⟨wide_lt h.lt h'.lt⟩
theorem Sm.add {n : Nat} {i j : Int} (h : Sm n i) (h' : Sm n j) : Sm (n + 1) (i + j) := ⟨by
  have h1 := h.lt
  have h2 := h'.lt
  have := Int.natAbs_add_le i j
  rw [Nat.pow_succ]
  omega⟩
theorem Sm.neg {n : Nat} {i : Int} (h : Sm n i) : Sm n (-i) := ⟨by
  rw [Int.natAbs_neg]
  exact h.lt⟩
theorem Sm.sub {n : Nat} {i j : Int} (h : Sm n i) (h' : Sm n j) : Sm (n + 1) (i - j) := by
  rw [Int.sub_eq_add_neg]
  exact h.add h'.neg
theorem Sm.le {n : Nat} {i j : Int} (h : Sm n j) (e : i.natAbs ≤ j.natAbs) : Sm n i := ⟨Nat.lt_of_le_of_lt e h.lt⟩
theorem Sm.of {n : Nat} {i : Int} (b : Nat) (h : i.natAbs ≤ b) (e : b < 2 ^ n := by decide) : Sm n i := ⟨Nat.lt_of_le_of_lt h e⟩
theorem cm_sm {n m : Nat} {i j : Int} (h : Sm n i) (h' : Sm m j) (hn : n ≤ 60000000 := by decide) (hm : m ≤ 60000000 := by decide) : CM i j := cm_big h.lt h'.lt hn hm
theorem cf_sm {n : Nat} {i j : Int} (h0 : j ≠ 0) (h : Sm n j) (hn : n ≤ 8999 := by decide) : CF i j := ⟨h0, by
  have := PySem.Flt.log2_lt_of (n := j.natAbs) (k := n + 1) (by omega) (Nat.lt_of_lt_of_le h.lt (Nat.pow_le_pow_right (by decide) (by omega)))
  omega⟩

/-! ### fractions -/
def sg (v : Int) : Int := if 0 < v then 1 else -1
/-- the two parts of u over v, lowered -/
def lwN (u v : Int) : Int := (sg v * u).fdiv ((Nat.gcd u.natAbs v.natAbs : Nat) : Int)
def lwD (u v : Int) : Int := ((v.natAbs : Nat) : Int).fdiv ((Nat.gcd u.natAbs v.natAbs : Nat) : Int)
theorem gcd_pos {u v : Int} (h : v ≠ 0) : 0 < ((Nat.gcd u.natAbs v.natAbs : Nat) : Int) := by
  have : 0 < Nat.gcd u.natAbs v.natAbs := Nat.gcd_pos_of_pos_right _ (by omega)
  omega
theorem fdiv_le {u g : Int} (h : 0 < g) : (u.fdiv g).natAbs ≤ u.natAbs := by
  rw [Int.fdiv_eq_ediv_of_nonneg u (by omega)]
  have h1 := Int.emod_nonneg u (show g ≠ 0 by omega)
  have h2 := Int.emod_lt_of_pos u h
  have h3 := Int.mul_ediv_add_emod u g
  by_cases c : 0 ≤ u
  · have h4 : 0 ≤ u / g := Int.ediv_nonneg c (by omega)
    have h5 : u / g ≤ u := Int.ediv_le_self _ c
    omega
  · have h4 : u / g < 0 := Int.ediv_neg_of_neg_of_pos (by omega) h
    have h6 : (g - 1) * 1 ≤ (g - 1) * (-(u / g)) := Int.mul_le_mul_of_nonneg_left (by omega) (by omega)
    have h7 : (g - 1) * (-(u / g)) = -(g * (u / g)) + u / g := by
      rw [Int.sub_mul, Int.one_mul, Int.mul_neg]
      omega
    omega
theorem sg_abs (v : Int) : (sg v).natAbs = 1 := by unfold sg; split <;> rfl
theorem lwN_le {u v : Int} (h : v ≠ 0) : (lwN u v).natAbs ≤ u.natAbs := by
  unfold lwN
  refine Nat.le_trans (fdiv_le (gcd_pos h)) ?_
  rw [Int.natAbs_mul, sg_abs]
  omega
theorem lwD_le {u v : Int} (h : v ≠ 0) : (lwD u v).natAbs ≤ v.natAbs := by
  unfold lwD
  refine Nat.le_trans (fdiv_le (gcd_pos h)) ?_
  omega
theorem lwD_pos {u v : Int} (h : v ≠ 0) : 0 < lwD u v := by
  unfold lwD
  have g := gcd_pos (u := u) h
  rw [Int.fdiv_eq_ediv_of_nonneg _ (by omega)]
  have d : Nat.gcd u.natAbs v.natAbs ∣ v.natAbs := Nat.gcd_dvd_right _ _
  obtain ⟨k, hk⟩ := d
  have hv : 0 < v.natAbs := by omega
  have k0 : 0 < k := by
    rcases Nat.eq_zero_or_pos k with z | z
    · subst z; omega
    · exact z
  generalize Nat.gcd u.natAbs v.natAbs = gg at *
  rw [hk]
  have e : ((gg * k : Nat) : Int) / (gg : Int) = (k : Int) := by
    rw [Int.natCast_mul, Int.mul_ediv_cancel_left _ (by omega)]
  rw [e]
  omega
/-- the program's way: by the shared part with the bottom's sign -/
theorem frac_N {u v : Int} (h : v ≠ 0) : u.fdiv (if v < 0 then -((Nat.gcd u.natAbs v.natAbs : Nat) : Int) else ((Nat.gcd u.natAbs v.natAbs : Nat) : Int)) = lwN u v := by
  have g := gcd_pos (u := u) h
  unfold lwN sg
  have d : (Nat.gcd u.natAbs v.natAbs : Int) ∣ u := by
    have := Nat.gcd_dvd_left u.natAbs v.natAbs
    exact Int.ofNat_dvd_left.mpr this
  obtain ⟨k, hk⟩ := d
  generalize ((Nat.gcd u.natAbs v.natAbs : Nat) : Int) = gg at *
  by_cases c : v < 0
  · rw [if_pos c, if_neg (by omega), hk]
    have e : gg * k = (-gg) * (-k) := by rw [Int.neg_mul_neg]
    have e2 : -1 * (gg * k) = gg * (-k) := by rw [Int.mul_neg, Int.neg_mul, Int.one_mul]
    rw [e2]
    conv => lhs; rw [e]
    rw [Int.mul_fdiv_cancel_left _ (by omega), Int.mul_fdiv_cancel_left _ (by omega)]
  · rw [if_neg c, if_pos (by omega), Int.one_mul]
theorem frac_D {u v : Int} (h : v ≠ 0) : v.fdiv (if v < 0 then -((Nat.gcd u.natAbs v.natAbs : Nat) : Int) else ((Nat.gcd u.natAbs v.natAbs : Nat) : Int)) = lwD u v := by
  have g := gcd_pos (u := u) h
  unfold lwD
  have d : (Nat.gcd u.natAbs v.natAbs : Int) ∣ v := by
    have := Nat.gcd_dvd_right u.natAbs v.natAbs
    exact Int.ofNat_dvd_left.mpr this
  obtain ⟨k, hk⟩ := d
  by_cases c : v < 0
  · rw [if_pos c]
    have e0 : ((v.natAbs : Nat) : Int) = -v := by omega
    rw [e0]
    generalize ((Nat.gcd u.natAbs v.natAbs : Nat) : Int) = gg at *
    subst hk
    have e : gg * k = (-gg) * (-k) := by rw [Int.neg_mul_neg]
    have e2 : -(gg * k) = gg * (-k) := by rw [Int.mul_neg]
    rw [e2]
    conv => lhs; rw [e]
    rw [Int.mul_fdiv_cancel_left _ (by omega), Int.mul_fdiv_cancel_left _ (by omega)]
  · rw [if_neg c]
    have e0 : ((v.natAbs : Nat) : Int) = v := by omega
    rw [e0]
/-- already lowered: it is itself -/
theorem lw_self {u v : Int} (h : 0 < v) : (lwN u v = u ∧ lwD u v = v) ↔ Nat.gcd u.natAbs v.natAbs = 1 := by
  have g := gcd_pos (u := u) (v := v) (by omega)
  constructor
  · rintro ⟨_, h2⟩
    unfold lwD at h2
    have e0 : ((v.natAbs : Nat) : Int) = v := by omega
    rw [e0, Int.fdiv_eq_ediv_of_nonneg _ (by omega)] at h2
    have d : (Nat.gcd u.natAbs v.natAbs : Int) ∣ v := Int.ofNat_dvd_left.mpr (Nat.gcd_dvd_right u.natAbs v.natAbs)
    have e := Int.ediv_mul_cancel d
    rw [h2] at e
    have : ((Nat.gcd u.natAbs v.natAbs : Nat) : Int) = 1 := by
      have e3 : v * ((Nat.gcd u.natAbs v.natAbs : Nat) : Int) = v * 1 := by rw [e, Int.mul_one]
      exact Int.eq_of_mul_eq_mul_left (by omega) e3
    omega
  · intro e
    unfold lwN lwD sg
    rw [e, if_pos h, Int.one_mul]
    have e0 : ((v.natAbs : Nat) : Int) = v := by omega
    rw [e0]
    exact ⟨by simp, by simp⟩

/-! ### the law's draws -/
structure Bx where
  x : Int
  y : Int
  z : Int
abbrev bxl (b : Bx) : List PyData := [.int b.x, .int b.y, .int b.z]
def once (b : Bx) : Int := ((b.y + 48271 * (b.z + 1)) * (39373 + (b.z + 1))).fmod 2147483647
def twice (b : Bx) : Int := ((once b + (b.z + 1) + b.y.fdiv 1000003) * ((once b).fmod 40009 + 7)).fmod 2147483629
def tkR (b : Bx) (n : Int) : Int := if 0 < b.x then b.x.fmod n else (((twice b * 48271 + once b).fmod 2147483587).fdiv 64).fmod n
def tkB (b : Bx) (n : Int) : Bx := if 0 < b.x then ⟨b.x.fdiv n, b.y, b.z⟩ else ⟨b.x, b.y, b.z + 1⟩
theorem fmod_r {a n : Int} (h : 0 < n) : 0 ≤ a.fmod n ∧ a.fmod n < n := by
  rw [Int.fmod_eq_emod_of_nonneg a (by omega)]
  exact ⟨Int.emod_nonneg _ (by omega), Int.emod_lt_of_pos _ h⟩
theorem tk_r {b : Bx} {n : Int} (h : 0 < n) : 0 ≤ tkR b n ∧ tkR b n < n := by
  unfold tkR
  split <;> exact fmod_r h
/-- the box has been asked so many times at most -/
def Bk (c : Nat) (b : Bx) : Prop := 0 ≤ b.z ∧ b.z ≤ (c : Int)
theorem Bk.next {c : Nat} {b : Bx} {n : Int} (h : Bk c b) : Bk (c + 1) (tkB b n) := by
  unfold Bk tkB at *
  split
  · exact ⟨h.1, by have := h.2; show b.z ≤ ((c + 1 : Nat) : Int); omega⟩
  · exact ⟨by have := h.1; show 0 ≤ b.z + 1; omega, by have := h.2; show b.z + 1 ≤ ((c + 1 : Nat) : Int); omega⟩
theorem Bk.mono {c d : Nat} {b : Bx} (h : Bk c b) (e : c ≤ d) : Bk d b := ⟨h.1, by have := h.2; omega⟩
end Km
namespace Km
/-- m is s's square times u, which no square divides -/
structure Prt (m s u : Nat) : Prop where
  eq : s * s * u = m
  s1 : 1 ≤ s
  u1 : 1 ≤ u
  free : ∀ t, 2 ≤ t → ¬ (t * t ∣ u)
theorem Prt.side {m s u t : Nat} (h : Prt m s u) (ht : 1 ≤ t) (hd : t * t ∣ m) : t ∣ s := by
  obtain ⟨g, t', s', hg, hc, rfl, rfl⟩ : ∃ g t' s', 0 < g ∧ Nat.Coprime t' s' ∧ t = t' * g ∧ s = s' * g := by
    have hg : 0 < Nat.gcd t s := Nat.gcd_pos_of_pos_left _ ht
    exact ⟨Nat.gcd t s, t / Nat.gcd t s, s / Nat.gcd t s, hg, Nat.coprime_div_gcd_div_gcd hg, (Nat.div_mul_cancel (Nat.gcd_dvd_left t s)).symm, (Nat.div_mul_cancel (Nat.gcd_dvd_right t s)).symm⟩
  rw [← h.eq] at hd
  have e1 : t' * g * (t' * g) = (g * g) * (t' * t') := by simp only [Nat.mul_assoc, Nat.mul_comm, Nat.mul_left_comm]
  have e2 : s' * g * (s' * g) * u = (g * g) * (s' * s' * u) := by simp only [Nat.mul_assoc, Nat.mul_comm, Nat.mul_left_comm]
  rw [e1, e2] at hd
  have hd2 : t' * t' ∣ s' * s' * u := Nat.dvd_of_mul_dvd_mul_left (Nat.mul_pos hg hg) hd
  have c2 : Nat.Coprime (t' * t') (s' * s') := Nat.Coprime.mul_left (Nat.Coprime.mul_right hc hc) (Nat.Coprime.mul_right hc hc)
  have hd3 : t' * t' ∣ u := c2.dvd_of_dvd_mul_left hd2
  have t1 : t' = 1 := by
    rcases Nat.lt_or_ge t' 2 with c | c
    · have : t' ≠ 0 := fun z => by subst z; simp at ht
      omega
    · exact absurd hd3 (h.free t' c)
  subst t1
  rw [Nat.one_mul]
  exact ⟨s', Nat.mul_comm _ _⟩
theorem Prt.uniq {m s u s' u' : Nat} (h : Prt m s u) (h' : Prt m s' u') : s = s' ∧ u = u' := by
  have a : s' ∣ s := h.side h'.s1 ⟨u', h'.eq.symm⟩
  have b : s ∣ s' := h'.side h.s1 ⟨u, h.eq.symm⟩
  have e := Nat.dvd_antisymm b a
  subst e
  refine ⟨rfl, Nat.eq_of_mul_eq_mul_left (Nat.mul_pos h.s1 h.s1) (h.eq.trans h'.eq.symm)⟩
theorem Prt.ex : ∀ (n m : Nat), m ≤ n → 1 ≤ m → ∃ s u, Prt m s u
  | 0, m, h, h1 => by omega
  | n + 1, m, h, h1 => by
    by_cases c : ∃ t, 2 ≤ t ∧ t * t ∣ m
    · obtain ⟨t, ht, k, hk⟩ := c
      have tt : 4 ≤ t * t := Nat.mul_le_mul ht ht
      have k1 : 1 ≤ k := by
        rcases Nat.eq_zero_or_pos k with z | z
        · subst z; simp at hk; omega
        · exact z
      have kl : k ≤ n := by
        have : 4 * k ≤ t * t * k := Nat.mul_le_mul_right k tt
        omega
      obtain ⟨s, u, p⟩ := Prt.ex n k kl k1
      refine ⟨t * s, u, ?_, Nat.mul_pos (by omega) p.s1, p.u1, p.free⟩
      rw [hk, ← p.eq]
      simp only [Nat.mul_assoc, Nat.mul_comm, Nat.mul_left_comm]
    · exact ⟨1, m, by simp, Nat.le_refl _, h1, fun t ht hd => c ⟨t, ht, hd⟩⟩
theorem Prt.le {m s u : Nat} (h : Prt m s u) : s * s ≤ m := by
  rw [← h.eq]
  exact Nat.le_mul_of_pos_right _ h.u1
/-- from the greatest side down, the first that divides -/
theorem Prt.of_down {m s : Nat} (h1 : 1 ≤ m) (hm : m ≤ 1000000) (hs : 1 ≤ s) (hd : s * s ∣ m) (hn : ∀ t, s < t → t ≤ 1000 → ¬ (t * t ∣ m)) : Prt m s (m / (s * s)) := by
  obtain ⟨s', u', p⟩ := Prt.ex m m (Nat.le_refl _) h1
  have a : s ∣ s' := p.side hs hd
  have b := Nat.le_of_dvd p.s1 a
  have c : s' ≤ 1000 := by
    rcases Nat.lt_or_ge 1000 s' with q | q
    · have := p.le
      have := Nat.mul_le_mul (show 1001 ≤ s' from q) (show 1001 ≤ s' from q)
      omega
    · exact q
  have e : s = s' := by
    rcases Nat.lt_or_ge s s' with q | q
    · exact absurd ⟨u', p.eq.symm⟩ (hn s' q c)
    · omega
  subst e
  have : m / (s * s) = u' := by
    rw [← p.eq, Nat.mul_div_cancel_left _ (Nat.mul_pos hs hs)]
  rw [this]
  exact p
end Km
namespace Ks
open PySem SX TL
/-! numbers and fractions as texts -/
def val (l : List Nat) : Nat := NumText.digitsVal l
def canon (l : List Nat) : Bool := dig l && (decide (l.length ≤ 1) || !decide (l.head? = some 48))
def figs (l : List Nat) : Option Nat := if canon l = true then some (val l) else none
def unm : List Nat → List Nat
  | 45 :: r => r
  | l => l
def numIn (l : List Nat) : Option Int := if (dig (unm l) && !(decide ((unm l).head? = some 48) && !decide (l = [48]))) = true then some (if unm l = l then (val (unm l) : Int) else -(val (unm l) : Int)) else none
theorem dig_all {l : List Nat} (h : dig l = true) : NumText.AllDigits l ∧ l ≠ [] := by
  unfold dig at h
  rw [Bool.and_eq_true, List.all_eq_true] at h
  refine ⟨fun c hc => ?_, fun e => by rw [e] at h; simp at h⟩
  have := h.1 c hc
  unfold isDg at this
  simpa using this
theorem dig_mk {l : List Nat} (h : NumText.AllDigits l) (hn : l ≠ []) : dig l = true := by
  unfold dig
  rw [Bool.and_eq_true, List.all_eq_true]
  refine ⟨fun c hc => ?_, by cases l; exact absurd rfl hn; rfl⟩
  have := h c hc
  unfold isDg
  simpa using this
theorem numL_head : ∀ n : Nat, n ≠ 0 → (numL n).head? ≠ some 48
  | n, h => by
    induction n using Nat.strongRecOn with
    | _ n ih =>
      by_cases c : n < 10
      · rw [numL_lt c]
        simp
        omega
      · rw [numL_step (by omega)]
        have := ih (n / 10) (by omega) (by omega)
        cases e : numL (n / 10) with
        | nil => exact absurd e (numL_ne _)
        | cons x r =>
          rw [e] at this
          exact this
theorem figs_num (n : Nat) : figs (numL n) = some n := by
  unfold figs canon
  rw [if_pos, val, numL_val]
  rw [Bool.and_eq_true]
  refine ⟨dig_mk (numL_digits n) (numL_ne n), ?_⟩
  by_cases h : n = 0
  · subst h
    rw [numL_lt (by decide)]
    rfl
  · rw [Bool.or_eq_true]
    exact .inr (by simp [numL_head n h])
theorem figs_back {l : List Nat} {n : Nat} (h : figs l = some n) : l = numL n := by
  unfold figs at h
  split at h
  · rename_i c
    cases h
    unfold canon at c
    rw [Bool.and_eq_true] at c
    obtain ⟨h1, h2⟩ := dig_all c.1
    obtain ⟨k, hk⟩ : ∃ k, l.length = k + 1 := ⟨l.length - 1, by have := List.length_pos_iff.mpr h2; omega⟩
    have e := NumText.toDigits_digitsVal k l hk h1 (by
      rcases (Bool.or_eq_true _ _).mp c.2 with q | q
      · have := of_decide_eq_true q
        exact .inl (by omega)
      · refine .inr ?_
        cases l with
        | nil => exact absurd rfl h2
        | cons x r =>
          refine ⟨x, r, rfl, ?_⟩
          have hx := h1 x (List.mem_cons_self ..)
          simp at q
          omega)
    unfold numL val
    rw [e, List.map_map]
    have : ∀ c ∈ l, (Char.toNat ∘ Char.ofNat) c = c := fun c hc => by
      have := h1 c hc
      have g : ∀ c : Nat, c < 128 → (Char.toNat ∘ Char.ofNat) c = c := by decide
      exact g c (by omega)
    rw [List.map_congr_left this, List.map_id']
  · cases h
theorem figs_dig {l : List Nat} {n : Nat} (h : figs l = some n) : NumText.AllDigits l := by
  rw [figs_back h]
  exact numL_digits n
theorem figs_none {l : List Nat} {c : Nat} (hc : c ∈ l) (h : c < 48 ∨ 57 < c) : figs l = none := by
  cases e : figs l with
  | none => rfl
  | some n =>
    have := figs_dig e c hc
    omega
theorem unm_45 (r : List Nat) : unm (45 :: r) = r := rfl
theorem unm_no {l : List Nat} (h : l.head? ≠ some 45) : unm l = l := by
  unfold unm
  split
  · exact absurd rfl h
  · rfl
theorem numIn_pos {l : List Nat} (h : l.head? ≠ some 45) : numIn l = (figs l).map fun n : Nat => (n : Int) := by
  unfold numIn figs canon
  rw [unm_no h, if_pos rfl]
  by_cases d : dig l = true
  · obtain ⟨_, hn⟩ := dig_all d
    rw [d, Bool.true_and, Bool.true_and]
    have e : (!(decide (l.head? = some 48) && !decide (l = [48]))) = (decide (l.length ≤ 1) || !decide (l.head? = some 48)) := by
      cases l with
      | nil => exact absurd rfl hn
      | cons x r =>
        cases r with
        | nil => by_cases z : x = 48 <;> simp [z]
        | cons y r => by_cases z : x = 48 <;> simp [z]
    rw [e]
    split <;> rfl
  · rw [Bool.not_eq_true] at d
    rw [d]
    rfl
theorem numIn_neg (r : List Nat) : numIn (45 :: r) = match figs r with | some n => if n = 0 then none else some (-(n : Int)) | none => none := by
  unfold numIn
  rw [unm_45, if_neg (show ¬ (r = 45 :: r) from fun e => by have := congrArg List.length e; simp at this)]
  have e1 : decide ((45 : Nat) :: r = [48]) = false := by simp
  rw [e1]
  cases ef : figs r with
  | none =>
    rw [if_neg]
    intro h
    rw [Bool.and_eq_true] at h
    unfold figs canon at ef
    rw [h.1] at ef
    simp at ef h
    have := ef.2
    exact h.2 this
  | some n =>
    have eb := figs_back ef
    have hd : dig r = true := by rw [eb]; exact dig_mk (numL_digits n) (numL_ne n)
    rw [hd]
    by_cases z : n = 0
    · subst z
      rw [eb, numL_lt (by decide)]
      rfl
    · have := numL_head n z
      rw [← eb] at this
      have e2 : decide (r.head? = some 48) = false := decide_eq_false this
      rw [e2]
      show some (-(val r : Int)) = if n = 0 then none else some (-(n : Int))
      rw [if_neg z, eb, val, numL_val]
def ntx (i : Int) : List Nat := if i < 0 then 45 :: numL i.natAbs else numL i.natAbs
theorem numIn_back {l : List Nat} {i : Int} (h : numIn l = some i) : l = ntx i := by
  by_cases c : l.head? = some 45
  · obtain ⟨r, rfl⟩ : ∃ r, l = 45 :: r := by
      cases l with
      | nil => cases c
      | cons x r => cases c; exact ⟨r, rfl⟩
    rw [numIn_neg] at h
    cases e : figs r with
    | none => rw [e] at h; cases h
    | some n =>
      rw [e] at h
      change (if n = 0 then none else some (-(n : Int))) = some i at h
      by_cases z : n = 0
      · rw [if_pos z] at h; cases h
      · rw [if_neg z] at h
        cases h
        unfold ntx
        rw [if_pos (by omega), figs_back e]
        simp
  · rw [numIn_pos c] at h
    cases e : figs l with
    | none => rw [e] at h; cases h
    | some n =>
      rw [e] at h
      have h : (n : Int) = i := Option.some.inj h
      subst h
      unfold ntx
      rw [if_neg (by omega), figs_back e]
      simp
theorem numIn_ntx (i : Int) : numIn (ntx i) = some i := by
  unfold ntx
  by_cases c : i < 0
  · rw [if_pos c, numIn_neg, figs_num]
    show (if i.natAbs = 0 then none else some (-(i.natAbs : Int))) = some i
    rw [if_neg (by omega)]
    congr 1
    omega
  · rw [if_neg c, numIn_pos, figs_num]
    · show some ((i.natAbs : Nat) : Int) = some i
      congr 1
      omega
    · intro h
      cases e : numL i.natAbs with
      | nil => exact numL_ne _ e
      | cons x r =>
        rw [e] at h
        cases h
        have := numL_digits i.natAbs 45 (by rw [e]; exact List.mem_cons_self ..)
        omega
theorem numIn_no {l : List Nat} {c : Nat} (hc : c ∈ l) (h : (c < 48 ∨ 57 < c) ∧ c ≠ 45) : numIn l = none := by
  cases e : numIn l with
  | none => rfl
  | some i =>
    rw [numIn_back e] at hc
    unfold ntx at hc
    split at hc
    · rcases List.mem_cons.mp hc with q | q
      · exact absurd q h.2
      · have := numL_digits _ c q
        omega
    · have := numL_digits _ c hc
      omega
/-- what a fraction's text tells -/
def frOk (a b : Int) : Bool := decide (0 < b) && decide (Nat.gcd a.natAbs b.natAbs = 1) && !decide (b = 1)
def pairO (x y : Option Int) : Option (Int × Int) := match x, y with
  | some a, some b => if frOk a b = true then some (a, b) else none
  | _, _ => none
theorem pairO_l {y : Option Int} : pairO none y = none := rfl
theorem pairO_r {x : Option Int} : pairO x none = none := by cases x <;> rfl
def fracOr (l : List Nat) : Option (Int × Int) := match cut1 47 l with
  | none => (numIn l).map fun a => (a, 1)
  | some (h, t) => pairO (numIn h) (numIn t)
theorem fracOr_s {l p q : List Nat} (h : cut1 47 l = some (p, q)) : fracOr l = pairO (numIn p) (numIn q) := by unfold fracOr; rw [h]
theorem fracOr_n {l : List Nat} (h : cut1 47 l = none) : fracOr l = (numIn l).map fun a => (a, 1) := by unfold fracOr; rw [h]
def ftx (a b : Int) : List Nat := if b = 1 then ntx a else ntx a ++ 47 :: ntx b
theorem fracOr_no {l : List Nat} {c : Nat} (hc : c ∈ l) (h : (c < 48 ∨ 57 < c) ∧ c ≠ 45 ∧ c ≠ 47) : fracOr l = none := by
  cases e : cut1 47 l with
  | none =>
    rw [fracOr_n e, numIn_no hc ⟨h.1, h.2.1⟩]
    rfl
  | some z =>
    obtain ⟨p, q⟩ := z
    rw [fracOr_s e]
    obtain ⟨rfl, _⟩ := cut1_some e
    rcases List.mem_append.mp hc with m | m
    · rw [numIn_no m ⟨h.1, h.2.1⟩]; rfl
    · rcases List.mem_cons.mp m with m | m
      · exact absurd m h.2.2
      · rw [numIn_no m ⟨h.1, h.2.1⟩, pairO_r]
theorem fracOr_back {l : List Nat} {a b : Int} (h : fracOr l = some (a, b)) : l = ftx a b ∧ 0 < b ∧ Nat.gcd a.natAbs b.natAbs = 1 := by
  cases e : cut1 47 l with
  | none =>
    rw [fracOr_n e] at h
    cases en : numIn l with
    | none => rw [en] at h; cases h
    | some i =>
      rw [en] at h
      cases h
      exact ⟨by rw [ftx, if_pos rfl]; exact numIn_back en, by decide, by simp⟩
  | some z =>
    obtain ⟨p, q⟩ := z
    rw [fracOr_s e] at h
    obtain ⟨rfl, _⟩ := cut1_some e
    cases e1 : numIn p with
    | none => rw [e1] at h; cases h
    | some x =>
      cases e2 : numIn q with
      | none => rw [e1, e2] at h; cases h
      | some y =>
        rw [e1, e2] at h
        change (if frOk x y = true then some (x, y) else none) = some (a, b) at h
        split at h
        · rename_i ok
          cases h
          unfold frOk at ok
          simp at ok
          refine ⟨?_, ok.1.1, ok.1.2⟩
          rw [ftx, if_neg ok.2, ← numIn_back e1, ← numIn_back e2]
        · cases h
theorem ntx_sl (i : Int) : 47 ∉ ntx i ∧ 114 ∉ ntx i ∧ 32 ∉ ntx i := by
  unfold ntx
  split
  · simp
    exact ⟨numL_free (by omega), numL_free (by omega), numL_free (by omega)⟩
  · exact ⟨numL_free (by omega), numL_free (by omega), numL_free (by omega)⟩
theorem fracOr_ftx {a b : Int} (hb : 0 < b) (g : Nat.gcd a.natAbs b.natAbs = 1) : fracOr (ftx a b) = some (a, b) := by
  unfold ftx
  by_cases c : b = 1
  · rw [if_pos c, fracOr_n (cut1_no (ntx_sl a).1), numIn_ntx, c]
    rfl
  · rw [if_neg c, fracOr_s (cut1_mk _ (ntx_sl a).1), numIn_ntx, numIn_ntx]
    show (if frOk a b = true then some (a, b) else none) = _
    rw [if_pos (by unfold frOk; simp [hb, g, c])]
theorem ftx_no (a b : Int) : 114 ∉ ftx a b ∧ 32 ∉ ftx a b := by
  unfold ftx
  split
  · exact (ntx_sl a).2
  · simp
    exact ⟨⟨(ntx_sl a).2.1, (ntx_sl b).2.1⟩, (ntx_sl a).2.2, (ntx_sl b).2.2⟩
/-! the law's own reading -/
def readB (bel : Bool) (ps : List (Option Nat)) : Option (Int × Int) := match ps with
  | [some n] => if bel = true ∧ n = 0 then none else some (if bel = true then -(n : Int) else n, 1)
  | [some n, some m] => if (bel = true ∧ n = 0) ∨ m < 2 ∨ Nat.gcd n m ≠ 1 then none else some (if bel = true then -(n : Int) else n, (m : Int))
  | _ => none
def bel (l : List Nat) : Bool := decide (l.head? = some 45)
def readF (l : List Nat) : Option (Int × Int) := readB (bel l) ((splt 47 (unm l)).map figs)
theorem figs_nohead {l : List Nat} {n : Nat} (h : figs l = some n) : l.head? ≠ some 45 := fun e => by
  cases l with
  | nil => cases e
  | cons x r =>
    cases e
    have := figs_dig h 45 (List.mem_cons_self ..)
    omega
theorem head45 {l : List Nat} (c : l.head? = some 45) : ∃ r, l = 45 :: r := by
  cases l with
  | nil => cases c
  | cons x r => cases c; exact ⟨r, rfl⟩
/-- a bottom, by the one and by the other reading -/
theorem bot {q : List Nat} {x : Option Int} : pairO x (numIn q) = pairO x ((figs q).map fun m : Nat => (m : Int)) := by
  by_cases c : q.head? = some 45
  · obtain ⟨r, rfl⟩ := head45 c
    rw [numIn_neg, figs_none (c := 45) (List.mem_cons_self ..) (by omega)]
    cases figs r with
    | none => rfl
    | some n =>
      show pairO x (if n = 0 then none else some (-(n : Int))) = pairO x none
      by_cases z : n = 0
      · rw [if_pos z]
      · rw [if_neg z, pairO_r]
        cases x with
        | none => rfl
        | some a =>
          show (if frOk a (-(n : Int)) = true then some (a, -(n : Int)) else none) = none
          rw [if_neg]
          unfold frOk
          simp
          omega
  · rw [numIn_pos c]
theorem frOk_nat {a : Int} {n m : Nat} (h : a.natAbs = n) : frOk a (m : Int) = !(decide (m < 2) || !decide (Nat.gcd n m = 1)) := by
  unfold frOk
  rw [h, Int.natAbs_natCast, Bool.eq_iff_iff]
  simp
  constructor
  · rintro ⟨⟨a, b⟩, c⟩
    exact ⟨by omega, b⟩
  · rintro ⟨a, b⟩
    exact ⟨⟨by omega, b⟩, by omega⟩
theorem two {b : Bool} {p q : List Nat} {x : Option Int} (hx : x = match figs p with | some n => if b = true ∧ n = 0 then none else some (if b = true then -(n : Int) else n) | none => none) :
    pairO x ((figs q).map fun m : Nat => (m : Int)) = readB b [figs p, figs q] := by
  subst hx
  cases figs p with
  | none => rfl
  | some n =>
    show pairO (if b = true ∧ n = 0 then none else some (if b = true then -(n : Int) else n)) _ = _
    cases figs q with
    | none => rw [show Option.map (fun m : Nat => (m : Int)) none = none from rfl, pairO_r]; rfl
    | some m =>
      show pairO _ (some (m : Int)) = if (b = true ∧ n = 0) ∨ m < 2 ∨ Nat.gcd n m ≠ 1 then none else some (if b = true then -(n : Int) else n, (m : Int))
      by_cases z : b = true ∧ n = 0
      · rw [if_pos z, if_pos (.inl z)]; rfl
      · rw [if_neg z]
        show (if frOk (if b = true then -(n : Int) else n) (m : Int) = true then some (if b = true then -(n : Int) else (n : Int), (m : Int)) else none) = _
        rw [frOk_nat (n := n) (by split <;> omega)]
        by_cases w : m < 2 ∨ Nat.gcd n m ≠ 1
        · have e : (!(decide (m < 2) || !decide (Nat.gcd n m = 1))) = false := by
            rcases w with w | w
            · simp [w]
            · simp [w]
          rw [e, if_pos (show (b = true ∧ n = 0) ∨ m < 2 ∨ Nat.gcd n m ≠ 1 from .inr w)]
          rfl
        · have e : (!(decide (m < 2) || !decide (Nat.gcd n m = 1))) = true := by
            simp at w
            simp [w]
          rw [e, if_neg (show ¬ ((b = true ∧ n = 0) ∨ m < 2 ∨ Nat.gcd n m ≠ 1) from fun h => h.elim z w)]
          rfl
theorem three {b : Bool} {x y : Option Nat} : ∀ l : List (Option Nat), 1 ≤ l.length → readB b (x :: y :: l) = none
  | z :: l, _ => by
    cases x <;> cases y <;> rfl
/-- both readings are one -/
theorem read_same (l : List Nat) : fracOr l = readF l := by
  have go : ∀ (b : Bool) (r : List Nat), (∀ p q, cut1 47 r = some (p, q) → fracOr l = pairO (match figs p with | some n => if b = true ∧ n = 0 then none else some (if b = true then -(n : Int) else n) | none => none) (numIn q)) →
      (cut1 47 r = none → fracOr l = (match figs r with | some n => if b = true ∧ n = 0 then none else some (if b = true then -(n : Int) else n) | none => none).map fun a => (a, 1)) → fracOr l = readB b ((splt 47 r).map figs) := by
    intro b r h1 h2
    cases e : cut1 47 r with
    | none =>
      rw [h2 e, splt_no (cut1_none e)]
      show _ = readB b [figs r]
      cases figs r with
      | none => rfl
      | some n =>
        show Option.map _ (if b = true ∧ n = 0 then none else some (if b = true then -(n : Int) else n)) = if b = true ∧ n = 0 then none else some (if b = true then -(n : Int) else n, 1)
        by_cases z : b = true ∧ n = 0
        · rw [if_pos z, if_pos z]; rfl
        · rw [if_neg z, if_neg z]; rfl
    | some z =>
      obtain ⟨p, q⟩ := z
      rw [h1 p q e]
      obtain ⟨rfl, hp⟩ := cut1_some e
      rw [splt_mk q hp]
      cases e2 : cut1 47 q with
      | none =>
        rw [splt_no (cut1_none e2)]
        show _ = readB b [figs p, figs q]
        rw [bot, two rfl]
      | some z2 =>
        obtain ⟨p2, q2⟩ := z2
        obtain ⟨rfl, hp2⟩ := cut1_some e2
        rw [splt_mk q2 hp2, numIn_no (c := 47) (by simp) (by omega), pairO_r]
        show none = readB b (figs p :: figs p2 :: (splt 47 q2).map figs)
        rw [three _ (by rw [List.length_map]; exact List.length_pos_iff.mpr (splt_ne q2))]
  unfold readF
  by_cases c : l.head? = some 45
  · obtain ⟨r, rfl⟩ := head45 c
    rw [unm_45, show bel (45 :: r) = true from rfl]
    have e45 : cut1 47 (45 :: r) = (cut1 47 r).map fun z => (45 :: z.1, z.2) := rfl
    refine go true r (fun p q e => ?_) (fun e => ?_)
    · rw [e] at e45
      rw [fracOr_s e45, numIn_neg]
      cases figs p with
      | none => rfl
      | some n => simp
    · rw [e] at e45
      rw [fracOr_n e45, numIn_neg]
      cases figs r with
      | none => rfl
      | some n => simp
  · rw [unm_no c, show bel l = false from decide_eq_false c]
    refine go false l (fun p q e => ?_) (fun e => ?_)
    · rw [fracOr_s e]
      obtain ⟨rfl, hp⟩ := cut1_some e
      rw [numIn_pos (l := p)]
      · cases figs p with
        | none => rfl
        | some n => simp
      · intro h
        cases p with
        | nil => cases h
        | cons x p => cases h; exact c rfl
    · rw [fracOr_n e, numIn_pos c]
      cases figs l with
      | none => rfl
      | some n => simp
end Ks
namespace Ks
open PySem SX TL Km
open Classical
/-! roots as texts -/
abbrev FF := Int × Int
noncomputable def sf (n : Int) : Bool := decide (Prt n.toNat 1 n.toNat)
/-- whether parts are those of a ROOT -/
noncomputable def rOk (a b : Option FF) (u : Option Int) : Bool := match a, b, u with
  | some _, some b, some n => decide (1 ≤ n) && decide (n ≤ 1000000) && (decide (n = 1) == decide (b = (0, 1))) && sf n
  | _, _, _ => false
def rtx (a b : FF) (u : Int) : List Nat := if b = (0, 1) then ftx a.1 a.2 else (if a = (0, 1) then [] else ftx a.1 a.2 ++ [32]) ++ (ftx b.1 b.2 ++ 114 :: ntx u)
noncomputable def take (l : List Nat) (a b : Option FF) (u : Option Int) : Option (FF × FF × Int) := match a, b, u with
  | some a, some b, some u => if rOk (some a) (some b) (some u) = true ∧ rtx a b u = l then some (a, b, u) else none
  | _, _, _ => none
/-- the parts that the program tries -/
def candA (l : List Nat) : Option FF := match rcut 32 l with
  | none => match cut1 114 l with
    | none => fracOr l
    | some _ => some (0, 1)
  | some (h, t) => match cut1 114 t with
    | none => fracOr l
    | some _ => fracOr h
def tailOf (l : List Nat) : List Nat := match rcut 32 l with
  | none => l
  | some (_, t) => t
def candB (l : List Nat) : Option FF := match cut1 114 (tailOf l) with
  | none => some (0, 1)
  | some (s, _) => fracOr s
def candU (l : List Nat) : Option Int := match cut1 114 (tailOf l) with
  | none => some 1
  | some (_, u) => numIn u
noncomputable def progR (l : List Nat) : Option (FF × FF × Int) := take l (candA l) (candB l) (candU l)
noncomputable def bodyR (two : Bool) (a : Option FF) (w : List Nat) : Option (FF × FF × Int) := if w.count 114 ≠ 1 then none else match splt 114 w with
  | [s, u] => match a, readF s, figs u with
    | some a, some b, some n => if n < 2 ∨ b.1 = 0 ∨ (two = true ∧ a.1 = 0) then none else if n > 1000000 ∨ sf n = false then none else some (a, b, (n : Int))
    | _, _, _ => none
  | _ => none
noncomputable def lawR (l : List Nat) : Option (FF × FF × Int) := if 114 ∉ l then (readF l).map fun a => (a, ((0 : Int), (1 : Int)), (1 : Int)) else match splt 32 l with
  | [w] => bodyR false (some (0, 1)) w
  | [v, w] => if 114 ∈ v then none else bodyR true (readF v) w
  | _ => none
theorem take_no {l : List Nat} {b : Option FF} {u : Option Int} : take l none b u = none := rfl
theorem take_nb {l : List Nat} {a : Option FF} {u : Option Int} : take l a none u = none := by cases a <;> rfl
theorem take_nu {l : List Nat} {a b : Option FF} : take l a b none = none := by cases a <;> cases b <;> rfl
theorem take_3 {l : List Nat} {a b : FF} {u : Int} : take l (some a) (some b) (some u) = if rOk (some a) (some b) (some u) = true ∧ rtx a b u = l then some (a, b, u) else none := rfl
theorem rOk_1 {a b : FF} {n : Int} (h : n < 1) : rOk (some a) (some b) (some n) = false := by
  show (decide (1 ≤ n) && _ && _ && _) = false
  rw [decide_eq_false (by omega)]
  rfl
theorem sf_1 : sf 1 = true := decide_eq_true (show Prt 1 1 1 from ⟨rfl, Nat.le_refl _, Nat.le_refl _, fun t ht hd => by
  have := Nat.le_of_dvd (by decide) hd
  have := Nat.mul_le_mul ht ht
  omega⟩)
theorem rOk_n1 {a : FF} : rOk (some a) (some (0, 1)) (some 1) = true := by
  unfold rOk
  simp [sf_1]
theorem splt_last {c : Nat} : ∀ (n : Nat) (h t : List Nat), h.length ≤ n → c ∉ t → splt c (h ++ c :: t) = splt c h ++ [t]
  | n, h, t, hn, ht => by
    cases e : cut1 c h with
    | none =>
      have := cut1_none e
      rw [splt_mk t this, splt_no this, splt_no ht]
      rfl
    | some z =>
      obtain ⟨p, q⟩ := z
      obtain ⟨rfl, hp⟩ := cut1_some e
      cases n with
      | zero => simp at hn
      | succ n =>
        rw [List.append_assoc, List.cons_append, splt_mk _ hp, splt_mk q hp, splt_last n q t (by simp at hn; omega) ht]
        rfl
/-- one word: b, r, under -/
theorem body_same {two : Bool} {a : Option FF} {l s u : List Nat} {pre : List Nat} (hs : 114 ∉ s) (hl : l = pre ++ (s ++ 114 :: u)) (ha : ∀ x, a = some x → (two = true → pre = ftx x.1 x.2 ++ [32] ∧ (x.1 = 0 → x = (0, 1))) ∧ (two = false → x = (0, 1) ∧ pre = [])) :
    take l a (fracOr s) (numIn u) = bodyR two a (s ++ 114 :: u) := by
  unfold bodyR
  by_cases hu : 114 ∈ u
  · rw [numIn_no hu (by omega), take_nu, if_pos]
    rw [List.count_append, List.count_cons]
    have := List.count_pos_iff.mpr hu
    simp
    omega
  · rw [if_neg (by
      rw [List.count_append, List.count_cons, List.count_eq_zero.mpr hs, List.count_eq_zero.mpr hu]
      simp), splt_mk u hs, splt_no hu]
    show _ = match a, readF s, figs u with
      | some a, some b, some n => if n < 2 ∨ b.1 = 0 ∨ (two = true ∧ a.1 = 0) then none else if n > 1000000 ∨ sf n = false then none else some (a, b, (n : Int))
      | _, _, _ => none
    rw [← read_same]
    cases ea : a with
    | none => rfl
    | some x =>
      cases eb : fracOr s with
      | none => rw [take_nb]
      | some b =>
        obtain ⟨bk, bp, bg⟩ := fracOr_back (a := b.1) (b := b.2) eb
        by_cases c45 : u.head? = some 45
        · obtain ⟨r, rfl⟩ := head45 c45
          rw [figs_none (c := 45) (List.mem_cons_self ..) (by omega), numIn_neg]
          cases figs r with
          | none => rfl
          | some n =>
            show take l (some x) (some b) (if n = 0 then none else some (-(n : Int))) = none
            by_cases z : n = 0
            · rw [if_pos z]; rfl
            · rw [if_neg z, take_3, rOk_1 (by omega), if_neg (by simp)]
        · rw [numIn_pos c45]
          cases eu : figs u with
          | none => rfl
          | some n =>
            show take l (some x) (some b) (some (n : Int)) = if n < 2 ∨ b.1 = 0 ∨ (two = true ∧ x.1 = 0) then none else if n > 1000000 ∨ sf n = false then none else some (x, b, (n : Int))
            have nb := figs_back eu
            have nt : ntx (n : Int) = u := by unfold ntx; rw [if_neg (by omega), Int.natAbs_natCast, nb]
            have inl : 114 ∈ l := by rw [hl]; simp
            rw [take_3]
            obtain ⟨a1, a2⟩ := ha x ea
            by_cases n1 : n < 2
            · rw [if_pos (show n < 2 ∨ _ from .inl n1), if_neg]
              rintro ⟨ok, tx⟩
              by_cases n0 : n = 0
              · rw [rOk_1 (by omega)] at ok
                cases ok
              · have n1 : n = 1 := by omega
                subst n1
                have ok' : (decide ((1 : Int) ≤ 1) && decide ((1 : Int) ≤ 1000000) && (decide ((1 : Int) = 1) == decide (b = (0, 1))) && sf 1) = true := ok
                have hb : b = (0, 1) := by
                  simp at ok'
                  exact ok'.1
                subst hb
                unfold rtx at tx
                rw [if_pos rfl] at tx
                exact (ftx_no x.1 x.2).1 (by rw [tx]; exact inl)
            · have hn1 : decide ((n : Int) = 1) = false := decide_eq_false (by omega)
              by_cases b0 : b.1 = 0
              · rw [if_pos (show n < 2 ∨ b.1 = 0 ∨ _ from .inr (.inl b0)), if_neg]
                rintro ⟨ok, _⟩
                have ok' : (decide ((1 : Int) ≤ n) && decide ((n : Int) ≤ 1000000) && (decide ((n : Int) = 1) == decide (b = (0, 1))) && sf n) = true := ok
                have hb : b = (0, 1) := by
                  rw [b0] at bg
                  simp at bg
                  exact Prod.ext b0 (by show b.2 = 1; omega)
                rw [hn1, decide_eq_true hb] at ok'
                simp at ok'
              · have hb : decide (b = (0, 1)) = false := decide_eq_false fun e => b0 (by rw [e])
                have okn : rOk (some x) (some b) (some (n : Int)) = (decide ((n : Int) ≤ 1000000) && sf n) := by
                  show (decide ((1 : Int) ≤ n) && decide ((n : Int) ≤ 1000000) && (decide ((n : Int) = 1) == decide (b = (0, 1))) && sf n) = _
                  rw [hn1, hb, decide_eq_true (show (1 : Int) ≤ n by omega)]
                  simp
                rw [okn]
                have tx : rtx x b n = (if x = (0, 1) then [] else ftx x.1 x.2 ++ [32]) ++ (s ++ 114 :: u) := by
                  unfold rtx
                  rw [if_neg (of_decide_eq_false hb), bk, nt]
                by_cases x0 : two = true ∧ x.1 = 0
                · rw [if_pos (show n < 2 ∨ b.1 = 0 ∨ _ from .inr (.inr x0)), if_neg]
                  rintro ⟨_, t2⟩
                  obtain ⟨p1, p2⟩ := a1 x0.1
                  rw [tx, if_pos (p2 x0.2), hl, p1] at t2
                  have := congrArg List.length t2
                  simp at this
                  omega
                · rw [if_neg (show ¬ (n < 2 ∨ b.1 = 0 ∨ (two = true ∧ x.1 = 0)) from fun h => h.elim n1 fun h => h.elim b0 x0)]
                  have t3 : rtx x b n = l := by
                    rw [tx, hl]
                    congr 1
                    cases two with
                    | true =>
                      obtain ⟨p1, _⟩ := a1 rfl
                      rw [p1, if_neg (fun e => x0 ⟨rfl, by rw [e]⟩)]
                    | false =>
                      obtain ⟨p1, p2⟩ := a2 rfl
                      rw [p1, p2, if_pos rfl]
                  by_cases g : (n : Int) ≤ 1000000 ∧ sf n = true
                  · rw [if_pos ⟨by simp [g.1, g.2], t3⟩, if_neg (fun h => h.elim (by omega) (by rw [g.2]; simp))]
                  · rw [if_neg (fun h => g (by have := h.1; simp at this; exact ⟨by omega, this.2⟩)), if_pos]
                    by_cases h6 : (n : Int) ≤ 1000000
                    · right
                      cases e : sf n with
                      | false => rfl
                      | true => exact absurd ⟨h6, e⟩ g
                    · left; omega
/-- both readings are one -/
theorem root_same (l : List Nat) : progR l = lawR l := by
  unfold progR
  cases er : rcut 32 l with
  | none =>
    have nb := rcut_none er
    have et : tailOf l = l := by unfold tailOf; rw [er]
    cases ec : cut1 114 l with
    | none =>
      have eA : candA l = fracOr l := by unfold candA; rw [er]; show (match cut1 114 l with | none => fracOr l | some _ => some (0, 1)) = _; rw [ec]
      have eB : candB l = some (0, 1) := by unfold candB; rw [et, ec]
      have eU : candU l = some 1 := by unfold candU; rw [et, ec]
      rw [eA, eB, eU]
      unfold lawR
      rw [if_pos (cut1_none ec), ← read_same]
      cases ef : fracOr l with
      | none => rfl
      | some a =>
        obtain ⟨bk, _, _⟩ := fracOr_back (a := a.1) (b := a.2) ef
        rw [take_3, rOk_n1, if_pos ⟨rfl, by unfold rtx; rw [if_pos rfl]; exact bk.symm⟩]
        rfl
    | some z =>
      obtain ⟨s, u⟩ := z
      have eA : candA l = some (0, 1) := by unfold candA; rw [er]; show (match cut1 114 l with | none => fracOr l | some _ => some (0, 1)) = _; rw [ec]
      have eB : candB l = fracOr s := by unfold candB; rw [et, ec]
      have eU : candU l = numIn u := by unfold candU; rw [et, ec]
      rw [eA, eB, eU]
      obtain ⟨e, hs⟩ := cut1_some ec
      unfold lawR
      rw [if_neg (by rw [e]; simp), splt_no nb]
      show _ = bodyR false (some (0, 1)) l
      have B := body_same (two := false) (a := some (0, 1)) (l := l) (s := s) (u := u) (pre := []) hs e (fun x hx => ⟨fun h => absurd h (by decide), fun _ => ⟨(Option.some.inj hx).symm, rfl⟩⟩)
      rw [B, ← e]
  | some z =>
    obtain ⟨h, t⟩ := z
    obtain ⟨e0, nt⟩ := rcut_some er
    have et : tailOf l = t := by unfold tailOf; rw [er]
    have bl : 32 ∈ l := by rw [e0]; simp
    have fno : fracOr l = none := fracOr_no bl (by omega)
    have sp := splt_last h.length h t (Nat.le_refl _) nt
    rw [← e0] at sp
    cases ec : cut1 114 t with
    | none =>
      have eA : candA l = fracOr l := by unfold candA; rw [er]; show (match cut1 114 t with | none => fracOr l | some _ => fracOr h) = _; rw [ec]
      rw [eA, fno, take_no]
      unfold lawR
      by_cases r : 114 ∈ l
      · rw [if_neg (by simp [r]), sp]
        have hc : t.count 114 ≠ 1 := by rw [List.count_eq_zero.mpr (cut1_none ec)]; decide
        cases e1 : splt 32 h with
        | nil => exact absurd e1 (splt_ne _)
        | cons v vs =>
          cases vs with
          | nil =>
            show none = if 114 ∈ v then none else bodyR true (readF v) t
            split
            · rfl
            · unfold bodyR; rw [if_pos hc]
          | cons v2 vs =>
            show none = match v :: v2 :: (vs ++ [t]) with | [w] => bodyR false (some (0, 1)) w | [v, w] => if 114 ∈ v then none else bodyR true (readF v) w | _ => none
            cases vs <;> rfl
      · rw [if_pos r, ← read_same, fno]; rfl
    | some z =>
      obtain ⟨s, u⟩ := z
      have eA : candA l = fracOr h := by unfold candA; rw [er]; show (match cut1 114 t with | none => fracOr l | some _ => fracOr h) = _; rw [ec]
      have eB : candB l = fracOr s := by unfold candB; rw [et, ec]
      have eU : candU l = numIn u := by unfold candU; rw [et, ec]
      rw [eA, eB, eU]
      obtain ⟨e, hs⟩ := cut1_some ec
      unfold lawR
      rw [if_neg (by rw [e0, e]; simp), sp]
      by_cases hb : 32 ∈ h
      · rw [fracOr_no hb (by omega), take_no]
        cases e1 : splt 32 h with
        | nil => exact absurd e1 (splt_ne _)
        | cons v vs =>
          cases vs with
          | nil =>
            exfalso
            cases e2 : cut1 32 h with
            | none => exact cut1_none e2 hb
            | some z =>
              obtain ⟨p, q⟩ := z
              obtain ⟨rfl, hp⟩ := cut1_some e2
              rw [splt_mk q hp] at e1
              injection e1 with _ e1
              exact splt_ne _ e1
          | cons v2 vs =>
            show none = match v :: v2 :: (vs ++ [t]) with | [w] => bodyR false (some (0, 1)) w | [v, w] => if 114 ∈ v then none else bodyR true (readF v) w | _ => none
            cases vs <;> rfl
      · rw [splt_no hb]
        show _ = if 114 ∈ h then none else bodyR true (readF h) t
        by_cases hr : 114 ∈ h
        · rw [if_pos hr, fracOr_no hr (by omega), take_no]
        · rw [if_neg hr, ← read_same, e]
          refine body_same (two := true) (pre := h ++ [32]) hs (by rw [e0, e]; simp) (fun x hx => ⟨fun _ => ?_, fun z => by cases z⟩)
          obtain ⟨bk, bp, bg⟩ := fracOr_back (a := x.1) (b := x.2) hx
          refine ⟨by rw [bk], fun z => ?_⟩
          rw [z] at bg
          simp at bg
          exact Prod.ext z (by show x.2 = 1; omega)
end Ks
namespace Pw
open PySem L2 PyProof.Rows
open SX (S)
section
variable {X : Cx}
/-- x.rpartition(sep) -/
theorem mt_rpart : MtR X "str.rpartition" (fun x xs H Q => ∃ a b, x = .str a ∧ xs = [.str b] ∧ (b.length == 0) = false ∧ a.length ≤ sizeLine ∧
    ∀ p, H p = none → Q (.ref p) (upd H p (.tup [.str (Txt.rpartition a b).1, .str (Txt.rpartition a b).2.1, .str (Txt.rpartition a b).2.2]))) := by
  intro pns sh σ H y ys v vs Q Iv ry rys hyp
  obtain ⟨a, b, rfl, rfl, hb, hz, hyp⟩ := hyp
  obtain ⟨t, rfl⟩ := ry
  cases rys with
  | cons r1 rys =>
    cases rys
    obtain ⟨u, rfl⟩ := r1
    refine call_meets F.slot_str_rpartition (typeIs_str _ _ _) F.entry_str_rpartition (F.args_str_rpartition_2 _ _) (meets_str_rpartition a b t u hb hz) ?_
    unfold Txt.rpartition at hyp
    revert hyp
    cases Builtin.Str.lastOccurrence a b 0 a.length with
    | none => exact fun q => laid_parts Iv q
    | some i => exact fun q => laid_parts Iv q
end
section
variable {K : Fg} {ρ ρ' : En} {s s1 s2 s3 : Sto} {x y z : Dx} {xs : List Dx} {te to : TE} {tas ta : TA} {tl th tk : TO} {n m : Nat} {a b w : Str} {l : List Nat} {c : Nat} {i : Int} {d : PyData} {v : V} {r : V → List V → Hp → VK → Prop}
theorem ev_sS (h : w = S l) : Ev K (tC (.str w)) ρ s (.d (.str (S l))) s := h ▸ ev_str
theorem ev_bm0 (h : Ev K to ρ s (.d (.str a)) s1) (hv : ∀ H, At K H v d) (hr : ∀ H (Q : VK), Q v H → r (.str a) [] H Q) : Ev K (tBM0 K "str" r to) ρ s (.d d) s1 := fun M σ H So R Q q =>
  h M σ H So R _ fun v1 H1 e S1 r1 => by
    cases r1
    exact ⟨rfl, hr H1 Q (q v H1 e S1 (hv _))⟩
theorem ev_bm1 (h : Ev K to ρ s (.d (.str a)) s1) (hb : Eva K tas ρ s1 [.d (.str b)] s2) (hv : ∀ H, At K H v d) (hr : ∀ H (Q : VK), Q v H → r (.str a) [.str b] H Q) : Ev K (tBM K "str" r to tas) ρ s (.d d) s2 := fun M σ H So R Q q =>
  h M σ H So R _ fun v1 H1 e1 S1 r1 => by
    cases r1
    refine ⟨rfl, hb M σ H1 S1 (R.mono e1) _ fun vs H2 e2 S2 r2 => ?_⟩
    cases r2 with
    | cons r2 r3 =>
      cases r3
      cases r2
      exact hr H2 Q (q v H2 (e1.trans e2) S2 (hv _))
/-- a new tuple of three texts -/
theorem ev_bmT {p q' o : Str} (h : Ev K to ρ s (.d (.str a)) s1) (hb : Eva K tas ρ s1 [.d (.str b)] s2) (hr : ∀ H (Q : VK), (∀ t, H t = none → Q (.ref t) (upd H t (.tup [.str p, .str q', .str o]))) → r (.str a) [.str b] H Q) : Ev K (tBM K "str" r to tas) ρ s (.d (.tuple [.str p, .str q', .str o])) s2 := fun M σ H So R Q q =>
  h M σ H So R _ fun v1 H1 e1 S1 r1 => by
    cases r1
    refine ⟨rfl, hb M σ H1 S1 (R.mono e1) _ fun vs H2 e2 S2 r2 => ?_⟩
    cases r2 with
    | cons r2 r3 =>
      cases r3
      cases r2
      refine hr H2 Q fun t ht => ?_
      refine q _ _ ((e1.trans e2).trans (hid_new ht)) (S2.new ht) (At.tup (SqT.of ?_) (.cons (.str _) (.cons (.str _) (.cons (.str _) .nil))))
      rw [hid_out (S2.free ht)]
      exact upd_same
theorem all_strs {M : List Addr} {H : Hp} : ∀ ys : List Str, AtAll K (hid M H) (ys.map V.str) (ys.map PyData.str)
  | [] => .nil
  | y :: ys => .cons (.str y) (all_strs ys)
/-- a new list of texts -/
theorem ev_bmL {ys : List Str} (h : Ev K to ρ s (.d (.str a)) s1) (hb : Eva K tas ρ s1 [.d (.str b)] s2) (hr : ∀ H (Q : VK), (∀ t, H t = none → Q (.ref t) (upd H t (.lst (ys.map V.str)))) → r (.str a) [.str b] H Q) : Ev K (tBM K "str" r to tas) ρ s (.d (.list (ys.map PyData.str))) s2 := fun M σ H So R Q q =>
  h M σ H So R _ fun v1 H1 e1 S1 r1 => by
    cases r1
    refine ⟨rfl, hb M σ H1 S1 (R.mono e1) _ fun vs H2 e2 S2 r2 => ?_⟩
    cases r2 with
    | cons r2 r3 =>
      cases r3
      cases r2
      refine hr H2 Q fun t ht => ?_
      refine q _ _ ((e1.trans e2).trans (hid_new ht)) (S2.new ht) (At.lst ?_ (all_strs ys))
      rw [hid_out (S2.free ht)]
      exact upd_same
theorem len_S : (S l).length = l.length := SX.S_len l
theorem sz {n : Nat} (h : n ≤ 1000000) : n ≤ sizeLine := by rw [sizeLine_eq]; omega
theorem ev_isascii (h : Ev K to ρ s (.d (.str (S l))) s1) : Ev K (tBM0 K "str" (fun x xs H Q => ∃ a, x = .str a ∧ xs = [] ∧ True ∧ Q (.bl (Txt.isascii a)) H) to) ρ s (.d (.bool (l.all (· < 128)))) s1 :=
  ev_bm0 (v := .bl (l.all (· < 128))) h (fun H => .bl _) fun H Q q => ⟨_, rfl, rfl, trivial, by rw [Ks.isascii_S]; exact q⟩
theorem ev_isdigit (h : Ev K to ρ s (.d (.str (S l))) s1) (ha : l.all (· < 128) = true) : Ev K (tBM0 K "str" (fun x xs H Q => ∃ a, x = .str a ∧ xs = [] ∧ True ∧ Q (.bl (Txt.isdigit a)) H) to) ρ s (.d (.bool (Ks.dig l))) s1 :=
  ev_bm0 (v := .bl (Ks.dig l)) h (fun H => .bl _) fun H Q q => ⟨_, rfl, rfl, trivial, by rw [Ks.isdigit_S ha]; exact q⟩
theorem ev_rmp (h : Ev K to ρ s (.d (.str (S l))) s1) (hb : Eva K tas ρ s1 [.d (.str (S [45]))] s2) (hz : l.length ≤ 1000000) : Ev K (tBM K "str" (fun x xs H Q => ∃ a b, x = .str a ∧ xs = [.str b] ∧ a.length ≤ sizeLine ∧ Q (.str (Txt.removeprefix a b)) H) to tas) ρ s (.d (.str (S (Ks.unm l)))) s2 :=
  ev_bm1 (v := .str (S (Ks.unm l))) h hb (fun H => .str _) fun H Q q => ⟨_, _, rfl, rfl, by rw [len_S]; exact sz hz, by rw [Ks.prefix_S]; exact q⟩
theorem ev_strip (h : Ev K to ρ s (.d (.str (S l))) s1) (hb : Eva K tas ρ s1 [.d (.str b)] s2) (hz : l.length ≤ 1000000) : Ev K (tBM K "str" (fun x xs H Q => ∃ a b, x = .str a ∧ xs = [.str b] ∧ a.length ≤ sizeLine ∧ Q (.str (Txt.stripChars a b)) H) to tas) ρ s (.d (.str (Txt.stripChars (S l) b))) s2 :=
  ev_bm1 (v := .str (Txt.stripChars (S l) b)) h hb (fun H => .str _) fun H Q q => ⟨_, _, rfl, rfl, by rw [len_S]; exact sz hz, q⟩
theorem ev_count (h : Ev K to ρ s (.d (.str (S l))) s1) (hb : Eva K tas ρ s1 [.d (.str (S [c]))] s2) : Ev K (tBM K "str" (fun x xs H Q => ∃ a b, x = .str a ∧ xs = [.str b] ∧ Q (.int (Txt.count a b)) H) to tas) ρ s (.d (.int ((l.count c : Nat) : Int))) s2 :=
  ev_bm1 (v := .int ((l.count c : Nat) : Int)) h hb (fun H => .int _) fun H Q q => ⟨_, _, rfl, rfl, by rw [Ks.count_S]; exact q⟩
theorem ev_part {p q' o : List Nat} (h : Ev K to ρ s (.d (.str (S l))) s1) (hb : Eva K tas ρ s1 [.d (.str (S [c]))] s2) (hz : l.length ≤ 1000000) (e : Txt.partition (S l) (S [c]) = (S p, S q', S o)) :
    Ev K (tBM K "str" (fun x xs H Q => ∃ a b, x = .str a ∧ xs = [.str b] ∧ (b.length == 0) = false ∧ a.length ≤ sizeLine ∧ ∀ p, H p = none → Q (.ref p) (upd H p (.tup [.str (Txt.partition a b).1, .str (Txt.partition a b).2.1, .str (Txt.partition a b).2.2]))) to tas) ρ s (.d (.tuple [.str (S p), .str (S q'), .str (S o)])) s2 :=
  ev_bmT h hb fun H Q q => ⟨_, _, rfl, rfl, rfl, by rw [len_S]; exact sz hz, by rw [e]; exact q⟩
theorem ev_rpart {p q' o : List Nat} (h : Ev K to ρ s (.d (.str (S l))) s1) (hb : Eva K tas ρ s1 [.d (.str (S [c]))] s2) (hz : l.length ≤ 1000000) (e : Txt.rpartition (S l) (S [c]) = (S p, S q', S o)) :
    Ev K (tBM K "str" (fun x xs H Q => ∃ a b, x = .str a ∧ xs = [.str b] ∧ (b.length == 0) = false ∧ a.length ≤ sizeLine ∧ ∀ p, H p = none → Q (.ref p) (upd H p (.tup [.str (Txt.rpartition a b).1, .str (Txt.rpartition a b).2.1, .str (Txt.rpartition a b).2.2]))) to tas) ρ s (.d (.tuple [.str (S p), .str (S q'), .str (S o)])) s2 :=
  ev_bmT h hb fun H Q q => ⟨_, _, rfl, rfl, rfl, by rw [len_S]; exact sz hz, by rw [e]; exact q⟩
abbrev stl (ps : List (List Nat)) : List PyData := ps.map fun p => .str (S p)
theorem ev_split (h : Ev K to ρ s (.d (.str (S l))) s1) (hb : Eva K tas ρ s1 [.d (.str (S [c]))] s2) (hz : l.length ≤ 1000000) (hc : c < 256) :
    Ev K (tBM K "str" (fun x xs H Q => ∃ a b, x = .str a ∧ xs = [.str b] ∧ (b.length == 0) = false ∧ a.length + 2 ≤ sizeLine ∧ rNewStrs (Txt.split a b) H Q) to tas) ρ s (.d (.list (stl (Ks.splt c l)))) s2 := by
  have := ev_bmL (ys := (Ks.splt c l).map S) (r := fun x xs H Q => ∃ a b, x = .str a ∧ xs = [.str b] ∧ (b.length == 0) = false ∧ a.length + 2 ≤ sizeLine ∧ rNewStrs (Txt.split a b) H Q) h hb fun H Q q => ⟨_, _, rfl, rfl, rfl, by rw [len_S, sizeLine_eq]; omega, by rw [Ks.split_c hc]; exact q⟩
  rw [List.map_map] at this
  exact this
/-- s[i] -/
theorem o_ixSg (h : atI l i = some c) (hz : l.length ≤ 1000000) : Op2 K (rIx K) (.d (.str (S l))) (.d (.int i)) s (.d (.str (S [c]))) s := fun M H v w So r1 r2 Q q => by
  cases r1; cases r2
  exact .inr (.inr ⟨_, _, c, rfl, rfl, by rw [len_S]; exact sz hz, h, q.here So (.str _)⟩)
/-- c in s -/
theorem o_inSg : Op2 K rInS (.d (.str (S [c]))) (.d (.str (S l))) s (.d (.bool (decide (c ∈ l)))) s := fun M H v w So r1 r2 Q q => by
  cases r1; cases r2
  exact ⟨c, S l, rfl, rfl, q.here So (.bl _)⟩
theorem o_notInSg : Op2 K rNotInS (.d (.str (S [c]))) (.d (.str (S l))) s (.d (.bool (!decide (c ∈ l)))) s := fun M H v w So r1 r2 Q q => by
  cases r1; cases r2
  exact ⟨c, S l, rfl, rfl, q.here So (.bl _)⟩
/-- s[lo:hi] -/
theorem ev_slS {lo hi : Option Int} {r : List Nat} (h : Ev K te ρ s (.d (.str (S l))) s1) (h1 : EvO K tl ρ s1 lo s2) (h2 : EvO K th ρ s2 hi s3) (hz : l.length ≤ 1000000) (e : cutS (S l) lo hi = S r) : Ev K (tSl rSlS te tl th) ρ s (.d (.str (S r))) s3 := fun M σ H So R Q q =>
  h M σ H So R _ fun v H1 e1 S1 r1 => h1 M σ H1 S1 (R.mono e1) _ fun H2 e2 S2 => h2 M σ H2 S2 (R.mono (e1.trans e2)) _ fun H3 e3 S3 => by
    cases r1
    exact ⟨_, rfl, by rw [len_S]; exact sz hz, by rw [e]; exact q _ _ ((e1.trans e2).trans e3) S3 (.str _)⟩
theorem cut_to (l : List Nat) (n : Nat) : cutS (S l) none (some (n : Int)) = S (l.take n) := by
  unfold cutS
  rw [len_S]
  show Str.mk _ = Str.mk _
  congr 1
  show ((l.drop 0).take ((if (n : Int) < 0 then ((n : Int) + (l.length : Int)).toNat else min (n : Int).toNat l.length) - 0)).toArray = _
  rw [if_neg (by omega), List.drop_zero]
  congr 1
  rw [Int.toNat_natCast, Nat.sub_zero, List.take_eq_take_iff]
  omega
theorem cut_from (l : List Nat) (n : Nat) : cutS (S l) (some (n : Int)) none = S (l.drop n) := by
  unfold cutS
  rw [len_S]
  show Str.mk _ = Str.mk _
  congr 1
  show ((l.drop (if (n : Int) < 0 then ((n : Int) + (l.length : Int)).toNat else min (n : Int).toNat l.length)).take (l.length - (if (n : Int) < 0 then ((n : Int) + (l.length : Int)).toNat else min (n : Int).toNat l.length))).toArray = _
  rw [if_neg (by omega), Int.toNat_natCast]
  congr 1
  rw [List.take_of_length_le (by rw [List.length_drop]; omega)]
  rcases Nat.le_total n l.length with h | h
  · rw [Nat.min_eq_left h]
  · rw [Nat.min_eq_right h, List.drop_length, List.drop_eq_nil_of_le h]
/-- s[::-1] -/
theorem eo_m1 : EvO K (tPart (tUn rNeg (tC (.int 1)))) ρ s (some (-1)) s := eo_some (i := -1) (ev_un ev_int (o_neg (i := 1)))
theorem ev_rvS (h : Ev K te ρ s (.d (.str (S l))) s1) (hk : EvO K tk ρ s1 (some (-1)) s2) (hz : l.length ≤ 1000000) : Ev K (tRv rRevS te tk) ρ s (.d (.str (S l.reverse))) s2 := fun M σ H So R Q q =>
  h M σ H So R _ fun v H1 e1 S1 r1 => hk M σ H1 S1 (R.mono e1) _ fun H2 e2 S2 => by
    cases r1
    exact ⟨rfl, l, rfl, hz, q _ _ (e1.trans e2) S2 (.str _)⟩
/-- xs[::-1], xs a list of the store with one thing -/
theorem ev_rv1 {k : Nat} (h : Ev K te ρ s (.loc k) s1) (hk : EvO K tk ρ s1 (some (-1)) s2) (hd : s2[k]? = some [d]) : Ev K (tRv rRev1 te tk) ρ s (.d (.list [d])) s2 := fun M σ H So R Q q =>
  h M σ H So R _ fun v H1 e1 S1 r1 => hk M σ H1 S1 (R.mono e1) _ fun H2 e2 S2 => by
    obtain ⟨p, hp, rfl⟩ := r1
    obtain ⟨p', vs, hp', h1, h2⟩ := S2.get hd
    rw [hp] at hp'; cases hp'
    cases h2 with
    | cons a t =>
      cases t
      refine ⟨rfl, p, _, rfl, h1, fun t ht => ?_⟩
      refine q _ _ ((e1.trans e2).trans (hid_new ht)) (S2.new ht) (At.lst ?_ (.cons (At.mono (hid_new ht) _ _ a) .nil))
      rw [hid_out (S2.free ht)]
      exact upd_same
/-- "".join([x]) -/
theorem ev_join1 (h : Ev K to ρ s (.d (.str (S []))) s1) (hb : Eva K tas ρ s1 [.d (.list [.str (S l)])] s2) (hz : l.length ≤ 1000000) :
    Ev K (tBM K "str" (fun x xs H Q => ∃ a p, ∃ ys : List Str, x = .str a ∧ xs = [.ref p] ∧ (SqL K H p (ys.map V.str) ∨ SqT K H p (ys.map V.str)) ∧ (ys.map (·.length)).sum + ys.length * a.length ≤ 16777216 ∧ Q (.str (Txt.join a ys)) H) to tas) ρ s (.d (.str (S l))) s2 := fun M σ H So R Q q =>
  h M σ H So R _ fun v1 H1 e1 S1 r1 => by
    cases r1
    refine ⟨rfl, hb M σ H1 S1 (R.mono e1) _ fun vs H2 e2 S2 r2 => ?_⟩
    cases r2 with
    | cons r2 r3 =>
      cases r3
      cases r2 with
      | lst g g2 =>
        cases g2 with
        | cons a t =>
          cases t
          cases a
          refine ⟨_, _, [S l], rfl, rfl, .inl (SqL.of (hid_some g).2), by simp [len_S]; omega, ?_⟩
          have := SX.join_S [] [l]
          have e3 : Txt.join (S []) [S l] = S l := by
            show Txt.join (S []) ([l].map S) = S l
            rw [this]
            rfl
          rw [e3]
          exact q _ _ (e1.trans e2) S2 (.str _)
theorem mtk_join {X : Cx} (hK : X.K = K := by rfl) : MtR X "str.join" (fun x xs H Q => ∃ a p, ∃ ys : List Str, x = .str a ∧ xs = [.ref p] ∧ (SqL K H p (ys.map V.str) ∨ SqT K H p (ys.map V.str)) ∧ (ys.map (·.length)).sum + ys.length * a.length ≤ 16777216 ∧ Q (.str (Txt.join a ys)) H) := hK ▸ mt_join
theorem sh_S (h : l.all (· < 128) = true) : SeqAt.shaped (.str (S l)) = true := by
  show (PyData.canLay0 (.str (S l)) && decide (PyData.depth (.str (S l)) ≤ 64)) = true
  have e : PyData.canLay0 (.str (S l)) = true := by
    show PyData.strOk (S l) = true
    unfold PyData.strOk
    show (l.toArray).all _ = true
    rw [← Array.all_toList, List.all_eq_true]
    rw [List.all_eq_true] at h
    intro c hc
    have := of_decide_eq_true (h c hc)
    simp
    omega
  rw [e]
  rfl
theorem eqv_S {a b : List Nat} : PyData.eqv (.str (S a)) (.str (S b)) = decide (a = b) := by
  show (S a == S b) = _
  exact SX.S_beq_eq
end
end Pw
namespace K05
open PySem L2 Pw
def topS (i : Nat) : Stmt := PySem.Challenge.pw_pegwishes_k05_roots_written.main.body.getD i (.Pass ⟨0, 0, 0, 0⟩)
abbrev s_is_number : Stmt := topS 10
abbrev N_is_number : List Str := ["thing"]
theorem sc_is_number : FnScope N_is_number ["thing"] (defScope s_is_number) := ⟨rfl, rfl, rfl, by decide +kernel, rfl, by decide +kernel, by decide +kernel⟩
abbrev s_number_text : Stmt := topS 11
abbrev N_number_text : List Str := ["number", "pieces", "rest", "low"]
theorem sc_number_text : FnScope N_number_text ["number"] (defScope s_number_text) := ⟨rfl, rfl, rfl, by decide +kernel, rfl, by decide +kernel, by decide +kernel⟩
abbrev s_number_in : Stmt := topS 12
abbrev N_number_in : List Str := ["text", "digits", "number"]
theorem sc_number_in : FnScope N_number_in ["text"] (defScope s_number_in) := ⟨rfl, rfl, rfl, by decide +kernel, rfl, by decide +kernel, by decide +kernel⟩
abbrev s__number_of : Stmt := topS 13
abbrev N__number_of : List Str := ["digits", "head", "number", "at"]
theorem sc__number_of : FnScope N__number_of ["digits"] (defScope s__number_of) := ⟨rfl, rfl, rfl, by decide +kernel, rfl, by decide +kernel, by decide +kernel⟩
abbrev s_is_frac : Stmt := topS 16
abbrev N_is_frac : List Str := ["thing", "top", "bottom"]
theorem sc_is_frac : FnScope N_is_frac ["thing"] (defScope s_is_frac) := ⟨rfl, rfl, rfl, by decide +kernel, rfl, by decide +kernel, by decide +kernel⟩
abbrev s_frac : Stmt := topS 17
abbrev N_frac : List Str := ["top", "bottom", "shared"]
theorem sc_frac : FnScope N_frac ["top", "bottom"] (defScope s_frac) := ⟨rfl, rfl, rfl, by decide +kernel, rfl, by decide +kernel, by decide +kernel⟩
abbrev s_plus : Stmt := topS 18
abbrev N_plus : List Str := ["one", "other"]
theorem sc_plus : FnScope N_plus ["one", "other"] (defScope s_plus) := ⟨rfl, rfl, rfl, by decide +kernel, rfl, by decide +kernel, by decide +kernel⟩
abbrev s_times : Stmt := topS 19
abbrev N_times : List Str := ["one", "other"]
theorem sc_times : FnScope N_times ["one", "other"] (defScope s_times) := ⟨rfl, rfl, rfl, by decide +kernel, rfl, by decide +kernel, by decide +kernel⟩
abbrev s_frac_text : Stmt := topS 20
abbrev N_frac_text : List Str := ["one", "top", "bottom"]
theorem sc_frac_text : FnScope N_frac_text ["one"] (defScope s_frac_text) := ⟨rfl, rfl, rfl, by decide +kernel, rfl, by decide +kernel, by decide +kernel⟩
abbrev s_frac_or_none : Stmt := topS 21
abbrev N_frac_or_none : List Str := ["text", "head", "stroke", "tail", "top", "one"]
theorem sc_frac_or_none : FnScope N_frac_or_none ["text"] (defScope s_frac_or_none) := ⟨rfl, rfl, rfl, by decide +kernel, rfl, by decide +kernel, by decide +kernel⟩
abbrev s_is_root : Stmt := topS 24
abbrev N_is_root : List Str := ["thing", "a", "b", "under"]
theorem sc_is_root : FnScope N_is_root ["thing"] (defScope s_is_root) := ⟨rfl, rfl, rfl, by decide +kernel, rfl, by decide +kernel, by decide +kernel⟩
abbrev s__parted : Stmt := topS 25
abbrev N__parted : List Str := ["many", "side", "under", "step"]
theorem sc__parted : FnScope N__parted ["many"] (defScope s__parted) := ⟨rfl, rfl, rfl, by decide +kernel, rfl, by decide +kernel, by decide +kernel⟩
abbrev s_rooted : Stmt := topS 26
abbrev N_rooted : List Str := ["a", "b", "many", "side", "under", "share"]
theorem sc_rooted : FnScope N_rooted ["a", "b", "many"] (defScope s_rooted) := ⟨rfl, rfl, rfl, by decide +kernel, rfl, by decide +kernel, by decide +kernel⟩
abbrev s_root_text : Stmt := topS 27
abbrev N_root_text : List Str := ["root", "a", "b", "under", "text"]
theorem sc_root_text : FnScope N_root_text ["root"] (defScope s_root_text) := ⟨rfl, rfl, rfl, by decide +kernel, rfl, by decide +kernel, by decide +kernel⟩
abbrev s_root_in : Stmt := topS 28
abbrev N_root_in : List Str := ["text", "head", "blank", "tail", "share", "mark", "under", "root", "a"]
theorem sc_root_in : FnScope N_root_in ["text"] (defScope s_root_in) := ⟨rfl, rfl, rfl, by decide +kernel, rfl, by decide +kernel, by decide +kernel⟩
abbrev s__law_cell_at : Stmt := topS 30
abbrev N__law_cell_at : List Str := ["_law_script", "_law_k"]
theorem sc__law_cell_at : FnScope N__law_cell_at ["_law_script", "_law_k"] (defScope s__law_cell_at) := ⟨rfl, rfl, rfl, by decide +kernel, rfl, by decide +kernel, by decide +kernel⟩
abbrev s__law_box : Stmt := topS 31
abbrev N__law_box : List Str := ["_law_script", "_law_k", "_law_cell"]
theorem sc__law_box : FnScope N__law_box ["_law_script", "_law_k"] (defScope s__law_box) := ⟨rfl, rfl, rfl, by decide +kernel, rfl, by decide +kernel, by decide +kernel⟩
abbrev s__law_take : Stmt := topS 32
abbrev N__law_take : List Str := ["_law_box_here", "_law_size", "_law_found", "_law_once", "_law_twice"]
theorem sc__law_take : FnScope N__law_take ["_law_box_here", "_law_size"] (defScope s__law_take) := ⟨rfl, rfl, rfl, by decide +kernel, rfl, by decide +kernel, by decide +kernel⟩
abbrev s__law_same : Stmt := topS 33
abbrev N__law_same : List Str := ["_law_found", "_law_due", "_law_here", "_law_there"]
theorem sc__law_same : FnScope N__law_same ["_law_found", "_law_due"] (defScope s__law_same) := ⟨rfl, rfl, rfl, by decide +kernel, rfl, by decide +kernel, by decide +kernel⟩
abbrev s__law_of : Stmt := topS 34
abbrev N__law_of : List Str := ["_law_box_here", "_law_some"]
theorem sc__law_of : FnScope N__law_of ["_law_box_here", "_law_some"] (defScope s__law_of) := ⟨rfl, rfl, rfl, by decide +kernel, rfl, by decide +kernel, by decide +kernel⟩
abbrev s__law_frac : Stmt := topS 35
abbrev N__law_frac : List Str := ["_law_top", "_law_under", "_law_big", "_law_small", "_law_sign"]
theorem sc__law_frac : FnScope N__law_frac ["_law_top", "_law_under"] (defScope s__law_frac) := ⟨rfl, rfl, rfl, by decide +kernel, rfl, by decide +kernel, by decide +kernel⟩
abbrev s__law_draw : Stmt := topS 36
abbrev N__law_draw : List Str := ["_law_box_here", "_law_top"]
theorem sc__law_draw : FnScope N__law_draw ["_law_box_here", "_law_top"] (defScope s__law_draw) := ⟨rfl, rfl, rfl, by decide +kernel, rfl, by decide +kernel, by decide +kernel⟩
abbrev s__law_side : Stmt := topS 37
abbrev N__law_side : List Str := ["_law_many", "_law_found"]
theorem sc__law_side : FnScope N__law_side ["_law_many"] (defScope s__law_side) := ⟨rfl, rfl, rfl, by decide +kernel, rfl, by decide +kernel, by decide +kernel⟩
abbrev s__law_parts : Stmt := topS 38
abbrev N__law_parts : List Str := ["_law_many", "_law_side_here"]
theorem sc__law_parts : FnScope N__law_parts ["_law_many"] (defScope s__law_parts) := ⟨rfl, rfl, rfl, by decide +kernel, rfl, by decide +kernel, by decide +kernel⟩
abbrev s__law_line : Stmt := topS 39
abbrev N__law_line : List Str := ["_law_one"]
theorem sc__law_line : FnScope N__law_line ["_law_one"] (defScope s__law_line) := ⟨rfl, rfl, rfl, by decide +kernel, rfl, by decide +kernel, by decide +kernel⟩
abbrev s__law_written : Stmt := topS 40
abbrev N__law_written : List Str := ["_law_main", "_law_a", "_law_b", "_law_under"]
theorem sc__law_written : FnScope N__law_written ["_law_main"] (defScope s__law_written) := ⟨rfl, rfl, rfl, by decide +kernel, rfl, by decide +kernel, by decide +kernel⟩
abbrev s__law_figures : Stmt := topS 41
abbrev N__law_figures : List Str := ["_law_word"]
theorem sc__law_figures : FnScope N__law_figures ["_law_word"] (defScope s__law_figures) := ⟨rfl, rfl, rfl, by decide +kernel, rfl, by decide +kernel, by decide +kernel⟩
abbrev s__law_read_frac : Stmt := topS 42
abbrev N__law_read_frac : List Str := ["_law_line_here", "_law_below", "_law_some", "_law_under", "_law_part"]
theorem sc__law_read_frac : FnScope N__law_read_frac ["_law_line_here"] (defScope s__law_read_frac) := ⟨rfl, rfl, rfl, by decide +kernel, rfl, by decide +kernel, by decide +kernel⟩
abbrev s__law_read : Stmt := topS 43
abbrev N__law_read : List Str := ["_law_line_here", "_law_own", "_law_words", "_law_a", "_law_b", "_law_under"]
theorem sc__law_read : FnScope N__law_read ["_law_line_here"] (defScope s__law_read) := ⟨rfl, rfl, rfl, by decide +kernel, rfl, by decide +kernel, by decide +kernel⟩
abbrev s__law_told : Stmt := topS 44
abbrev N__law_told : List Str := ["_law_line_here", "_law_turn", "_law_caught", "_law_found", "error", "_law_fine"]
theorem sc__law_told : FnScope N__law_told ["_law_line_here", "_law_turn"] (defScope s__law_told) := ⟨rfl, rfl, rfl, by decide +kernel, rfl, by decide +kernel, by decide +kernel⟩
abbrev s__law_bent : Stmt := topS 45
abbrev N__law_bent : List Str := ["_law_box_here", "_law_line_here", "_law_sign", "_law_at", "_law_way", "_law_ahead", "_law_behind", "_law_some"]
theorem sc__law_bent : FnScope N__law_bent ["_law_box_here", "_law_line_here"] (defScope s__law_bent) := ⟨rfl, rfl, rfl, by decide +kernel, rfl, by decide +kernel, by decide +kernel⟩
abbrev s_law : Stmt := topS 46
abbrev N_law : List Str := ["_law_script", "_law_k", "_law_box_here", "_law_turn", "_law_many", "_law_main", "_law_line_here", "_law_again", "_law_bent_here", "_law_due", "_law_odd", "_law_fine"]
theorem sc_law : FnScope N_law ["_law_script"] (defScope s_law) := ⟨rfl, rfl, rfl, by decide +kernel, rfl, by decide +kernel, by decide +kernel⟩
theorem bt_ValueError : bootBuiltins "ValueError" = some (.type "ValueError") := by decide +kernel
theorem bt_abs : bootBuiltins "abs" = some (.builtin "abs") := by decide +kernel
theorem bt_all : bootBuiltins "all" = some (.builtin "all") := by decide +kernel
theorem bt_bool : bootBuiltins "bool" = some (.type "bool") := by decide +kernel
theorem bt_int : bootBuiltins "int" = some (.type "int") := by decide +kernel
theorem bt_isinstance : bootBuiltins "isinstance" = some (.builtin "isinstance") := by decide +kernel
theorem bt_len : bootBuiltins "len" = some (.builtin "len") := by decide +kernel
theorem bt_list : bootBuiltins "list" = some (.type "list") := by decide +kernel
theorem bt_max : bootBuiltins "max" = some (.builtin "max") := by decide +kernel
theorem bt_min : bootBuiltins "min" = some (.builtin "min") := by decide +kernel
theorem bt_range : bootBuiltins "range" = some (.type "range") := by decide +kernel
theorem bt_str : bootBuiltins "str" = some (.type "str") := by decide +kernel
theorem bt_tuple : bootBuiltins "tuple" = some (.type "tuple") := by decide +kernel
theorem bt_zip : bootBuiltins "zip" = some (.type "zip") := by decide +kernel
/-- where the program's own things stand -/
structure ZA where
  TN : Addr
  tR : Tok
  tP : Tok
  tS : Tok
  cBadText : Addr
  cBadRow : Addr
  cByNought : Addr
  cNoRoot : Addr
  cTooGreat : Addr
  iBadText : Addr
abbrev tlV : List Value := [.type "ValueError", .type "Exception", .type "BaseException", .type "object"]
structure Zx (K : Pw.Fg) (mg : Str → Option Value) (ζ : ZA) : Prop where
  z_ValueError : mg "ValueError" = none
  z_abs : mg "abs" = none
  z_all : mg "all" = none
  z_bool : mg "bool" = none
  z_int : mg "int" = none
  z_isinstance : mg "isinstance" = none
  z_len : mg "len" = none
  z_list : mg "list" = none
  z_max : mg "max" = none
  z_min : mg "min" = none
  z_range : mg "range" = none
  z_str : mg "str" = none
  z_tuple : mg "tuple" = none
  z_zip : mg "zip" = none
  z_gcd : mg "gcd" = some (.builtin "math.gcd")
  g_NOUGHT : mg "NOUGHT" = some (.ref ζ.TN)
  n_NOUGHT : ∀ H, At K H (.ref ζ.TN) (.tuple [.int 0, .int 1])
  g_ROOTS : mg "ROOTS" = some (.int 1000000 ζ.tR)
  g_PIECE : mg "PIECE" = some (.int 60 ζ.tP)
  g_SPAN : mg "SPAN" = some (.int 1000000000000000000000000000000000000000000000000000000000000 ζ.tS)
  g_BadText : mg "BadText" = some (.ref ζ.cBadText)
  g_BadRow : mg "BadRow" = some (.ref ζ.cBadRow)
  g_ByNought : mg "ByNought" = some (.ref ζ.cByNought)
  g_NoRoot : mg "NoRoot" = some (.ref ζ.cNoRoot)
  g_TooGreat : mg "TooGreat" = some (.ref ζ.cTooGreat)
  x_BadText : Oxg K ζ.cBadText tlV "ValueError.__new__"
  i_BadText : PySem.W.findIn K (.ref ζ.cBadText) "__init__" = some (some (.ref ζ.iBadText))
  f_BadText : PySem.W.typeIn K (.ref ζ.iBadText) = some (.type "function")
  n_BadText : PySem.W.findIn K (.ref ζ.cBadText) "text" = some none
  e_BadText : Exg K ζ.cBadText
  m_BadText : PySem.W.exmAny K (.ref ζ.cBadText) [.ref ζ.cBadRow, .ref ζ.cBadText, .ref ζ.cByNought, .ref ζ.cNoRoot, .ref ζ.cTooGreat] = some true
  b_own : PySem.W.kitOne K (.ref ζ.cBadText) (.ref ζ.cBadText) = some true
  b_V : PySem.W.kitOne K (.ref ζ.cBadText) (.type "ValueError") = some true
  b_no : PySem.W.kitAny K (.ref ζ.cBadText) [.ref ζ.cBadRow, .ref ζ.cByNought, .ref ζ.cNoRoot, .ref ζ.cTooGreat] = some false
end K05
namespace Km
open PySem L2 Pw
theorem gs {s : Sto} {l : Nat} {X Y : List PyData} (h : s[l]? = some Y) : (s.set l X)[l]? = some X := List.getElem?_set_self (List.getElem?_eq_some_iff.mp h).1
theorem cm_r {i j : Int} (h1 : -(2 ^ 64) < j) (h2 : j < 2 ^ 64) : CM i j := cm_mk (.inr ⟨h1, h2⟩)
theorem cm_l {i j : Int} (h1 : -(2 ^ 64) < i) (h2 : i < 2 ^ 64) : CM i j := cm_mk (.inl ⟨h1, h2⟩)
theorem cm_fm7 {i a : Int} : CM i (a.fmod 40009 + 7) := by
  have := fmod_r (a := a) (n := 40009) (by decide)
  exact cm_r (by omega) (by omega)
theorem cm_if {i : Int} {b : Bool} : CM i (if b then 1 else 0) := by
  cases b
  · exact cm_r (by decide) (by decide)
  · exact cm_r (by decide) (by decide)
theorem cf_c {i j : Int} (h : j ≠ 0) (h2 : j.natAbs < 2 ^ 30) : CF i j := cf_sm h (n := 30) ⟨h2⟩
theorem cast_fmod {p q : Nat} (h : 0 < q) : (p : Int).fmod (q : Int) = ((p % q : Nat) : Int) := by
  rw [Int.fmod_eq_emod_of_nonneg _ (by omega), Int.natCast_emod]
theorem abs_if (v : Int) : (if v < 0 then -v else v) = ((v.natAbs : Nat) : Int) := by
  split <;> omega
/-! ### data equal to themselves -/
mutual
theorem eqv_self : ∀ d : PyData, d.canLay0 = true → PyData.eqv d d = true
  | .none, _ => rfl
  | .bool b, _ => by simp [PyData.eqv]
  | .int i, _ => by simp [PyData.eqv]
  | .str x, _ => by simp [PyData.eqv]
  | .list xs, h => by
    simp only [PyData.eqv]
    exact eqvAll_self xs (by simpa [PyData.canLay0] using h)
  | .tuple xs, h => by
    simp only [PyData.eqv]
    exact eqvAll_self xs (by simpa [PyData.canLay0] using h)
  | .dict _, h => by simp [PyData.canLay0] at h
theorem eqvAll_self : ∀ ds : List PyData, PyData.canLayAll0 ds = true → PyData.eqvAll ds ds = true
  | [], _ => rfl
  | d :: ds, h => by
    have h' : d.canLay0 = true ∧ PyData.canLayAll0 ds = true := by simpa [PyData.canLayAll0] using h
    simp only [PyData.eqvAll, eqv_self d h'.1, eqvAll_self ds h'.2, Bool.and_self]
end
theorem lay_mem : ∀ {ds : List PyData} {i : Nat} {d : PyData}, PyData.canLayAll0 ds = true → ds[i]? = some d → d.canLay0 = true
  | e :: ds, 0, d, h, g => by
    cases g
    have h' : e.canLay0 = true ∧ PyData.canLayAll0 ds = true := by simpa [PyData.canLayAll0] using h
    exact h'.1
  | e :: ds, i + 1, d, h, g => by
    have h' : e.canLay0 = true ∧ PyData.canLayAll0 ds = true := by simpa [PyData.canLayAll0] using h
    exact lay_mem (ds := ds) (i := i) h'.2 g
theorem dep_mem : ∀ {ds : List PyData} {i : Nat} {d : PyData}, ds[i]? = some d → d.depth ≤ PyData.depthAll ds
  | e :: ds, 0, d, g => by
    cases g
    simp only [PyData.depthAll]
    exact Nat.le_max_left _ _
  | e :: ds, i + 1, d, g => by
    simp only [PyData.depthAll]
    exact Nat.le_trans (dep_mem (ds := ds) (i := i) g) (Nat.le_max_right _ _)
mutual
def nod : PyData → Nat
  | .list xs => nodAll xs
  | .tuple xs => nodAll xs
  | _ => 0
def nodAll : List PyData → Nat
  | [] => 0
  | x :: xs => nod x + 1 + nodAll xs
end
theorem nod_len : ∀ ds : List PyData, ds.length ≤ nodAll ds
  | [] => Nat.le_refl _
  | d :: ds => by
    have := nod_len ds
    simp only [List.length_cons, nodAll]
    omega
theorem nod_mem : ∀ {ds : List PyData} {i : Nat} {d : PyData}, ds[i]? = some d → nod d ≤ nodAll ds
  | e :: ds, 0, d, g => by
    cases g
    simp only [nodAll]
    omega
  | e :: ds, i + 1, d, g => by
    have := nod_mem (ds := ds) (i := i) g
    simp only [nodAll]
    omega
theorem shaped_of {d : PyData} (h : d.canLay0 = true) (h2 : d.depth ≤ 64) : SeqAt.shaped d = true := by
  unfold SeqAt.shaped
  rw [h, decide_eq_true h2, Bool.and_self]
theorem all_true {α : Type} (ds : List α) : (ds.map fun _ => true).all id = true := by
  induction ds with
  | nil => rfl
  | cons d ds ih => simpa using ih
/-! ### the law's box -/
def cell (ns : List Int) (k : Int) : Int := if k < (ns.length : Int) then (ns[k.toNat]?).getD 0 else 0
def mkB (c k : Int) : Bx := ⟨(if c < 0 then -c else c) * (if decide ((10 : Int) ^ (18 : Int).toNat ≤ (if c < 0 then -c else c)) = true then 1 else 0), c.fmod 2305843009213693951 + 39373 * k + 17, 0⟩
theorem atI_cell {ns : List Int} {k : Int} (h0 : 0 ≤ k) (h : k < (ns.length : Int)) : atI ns k = some (cell ns k) := by
  unfold cell
  rw [if_pos h]
  have e : k = ((k.toNat : Nat) : Int) := (Int.toNat_of_nonneg h0).symm
  have hl : k.toNat < ns.length := by omega
  have h3 : ns[k.toNat]? = some ns[k.toNat] := List.getElem?_eq_getElem hl
  rw [h3]
  show atI ns k = some ns[k.toNat]
  conv => lhs; rw [e]
  exact atI_nat h3
theorem bk_mk {c k : Int} : Bk 0 (mkB c k) := ⟨Int.le_refl _, Int.le_refl _⟩
/-! ### draws -/
def drN (b : Bx) (n : Int) : Int := tkR b (2 * n + 1) - n
def drD (b : Bx) (n : Int) : Int := (([1, 1, 1, 2, 3, 4] : List Int)[(tkR (tkB b (2 * n + 1)) 6).toNat]?).getD 1
def drB (b : Bx) (n : Int) : Bx := tkB (tkB b (2 * n + 1)) 6
theorem drN_le {b : Bx} {n : Int} (h : 0 ≤ n) : -n ≤ drN b n ∧ drN b n ≤ n := by
  have := tk_r (b := b) (n := 2 * n + 1) (by omega)
  unfold drN
  omega
theorem six_get : ∀ i : Nat, i < 6 → ∃ v : Int, ([1, 1, 1, 2, 3, 4] : List Int)[i]? = some v ∧ 1 ≤ v ∧ v ≤ 4
  | 0, _ => ⟨1, rfl, by decide, by decide⟩
  | 1, _ => ⟨1, rfl, by decide, by decide⟩
  | 2, _ => ⟨1, rfl, by decide, by decide⟩
  | 3, _ => ⟨2, rfl, by decide, by decide⟩
  | 4, _ => ⟨3, rfl, by decide, by decide⟩
  | 5, _ => ⟨4, rfl, by decide, by decide⟩
  | i + 6, h => absurd h (by omega)
theorem drD_le {b : Bx} {n : Int} : 1 ≤ drD b n ∧ drD b n ≤ 4 := by
  have := tk_r (b := tkB b (2 * n + 1)) (n := 6) (by decide)
  obtain ⟨v, h, h1, h2⟩ := six_get (tkR (tkB b (2 * n + 1)) 6).toNat (by omega)
  unfold drD
  rw [h]
  exact ⟨h1, h2⟩
theorem drD_at {b : Bx} {n : Int} : ([.int 1, .int 1, .int 1, .int 2, .int 3, .int 4] : List PyData)[(tkR (tkB b (2 * n + 1)) 6).toNat]? = some (.int (drD b n)) := by
  have := tk_r (b := tkB b (2 * n + 1)) (n := 6) (by decide)
  obtain ⟨v, h, h1, h2⟩ := six_get (tkR (tkB b (2 * n + 1)) 6).toNat (by omega)
  have e : ([.int 1, .int 1, .int 1, .int 2, .int 3, .int 4] : List PyData) = ([1, 1, 1, 2, 3, 4] : List Int).map PyData.int := rfl
  unfold drD
  rw [e, List.getElem?_map, h]
  rfl
theorem Bk.draw {c : Nat} {b : Bx} {n : Int} (h : Bk c b) : Bk (c + 2) (drB b n) := (h.next (n := 2 * n + 1)).next
end Km
namespace K05
open PySem L2 Pw Km
section
local macro_rules | `(tactic| walk_at "sd") => `(tactic| first | rfl | assumption | exact Nat.le_of_ble_eq_true rfl | decide | omega | (walk_at "sd2"))
local macro_rules | `(tactic| walk_at "sd2") => `(tactic| first | exact cm_sm (by assumption) (by assumption) | exact cf_sm (by assumption) (by assumption) | ((with_reducible apply gs); (walk_at "sd")) | exact cm_fm7 | exact cm_if | exact cm_l (by omega) (by omega) | exact cm_r (by omega) (by omega) | exact cf_c (by omega) (by omega))
local macro_rules | `(tactic| walk_at "isi") => `(tactic| with_reducible first | exact kit_int | exact kit_bool | exact kit_tuple | exact kit_list | exact kit_str)
local macro_rules | `(tactic| walk_at "und") => `(tactic| with_reducible repeat (first | exact Und.nil | apply Und.cons))
local macro_rules | `(tactic| walk_at "op") => `(tactic| (first
  | with_reducible exact o_add | with_reducible exact o_minus | with_reducible exact o_lt | with_reducible exact o_gt | with_reducible exact o_le | with_reducible exact o_ge | with_reducible exact o_neg
  | with_reducible exact o_isN | with_reducible exact o_isntN | with_reducible exact o_isB | with_reducible exact o_isntB | with_reducible exact o_neS | with_reducible exact o_eqS
  | with_reducible exact o_abs | with_reducible exact o_intB | with_reducible exact o_min2 | with_reducible exact o_max2 | with_reducible exact o_lenL | with_reducible exact o_lenT | with_reducible exact o_lenC | with_reducible exact o_gcd
  | with_reducible apply o_ixT | with_reducible apply o_ixL | with_reducible apply o_ixM | with_reducible apply o_ixS | with_reducible apply o_lenM
  | with_reducible apply o_mul | with_reducible apply o_fdiv | with_reducible apply o_mod | with_reducible apply o_pow | with_reducible apply o_eq | with_reducible apply o_ne | with_reducible apply o_catT | with_reducible apply o_repr | with_reducible apply o_all) <;> walk_at "sd")
local macro_rules | `(tactic| walk_at "opn") => `(tactic| (first
  | with_reducible apply o_cat | with_reducible apply o_repI | with_reducible exact o_listT | with_reducible exact o_listL) <;> walk_at "sd")
local macro_rules | `(tactic| walk_at "ea") => `(tactic| first
  | with_reducible exact eva_nil
  | ((with_reducible apply eva_cons); (walk_at "ev"); (walk_at "ea")))
local macro_rules | `(tactic| walk_at "call") => `(tactic| fail)
local macro_rules | `(tactic| walk_at "evn") => `(tactic| first
  | ((with_reducible apply evn_lstU); (walk_at "ea"); (walk_at "und"); (walk_at "sd"))
  | ((with_reducible apply evn_op); (walk_at "ev"); (walk_at "ev"); (walk_at "opn"))
  | ((with_reducible apply evn_cb); (walk_at "ea"); (walk_at "opn"))
  | ((with_reducible apply evn_call); (walk_at "ea"); (walk_at "call")))
local macro_rules | `(tactic| walk_at "ev") => `(tactic| first
  | with_reducible exact ev_int | with_reducible exact ev_bl | with_reducible exact ev_non | with_reducible exact ev_str
  | ((with_reducible apply ev_var); rfl)
  | ((with_reducible apply ev_op); (walk_at "ev"); (walk_at "ev"); (walk_at "op"))
  | ((with_reducible apply ev_un); (walk_at "ev"); (walk_at "op"))
  | ((with_reducible apply ev_call); (walk_at "ea"); (walk_at "call"))
  | ((with_reducible apply ev_callD); (walk_at "ea"); (intro _ _; exact rxs_1); (walk_at "call"))
  | ((with_reducible apply ev_callK); (walk_at "ea"); rfl; (intro _ _ _ hh; first | exact rxs_swap2 hh | exact rxs_same1 hh); (walk_at "call"))
  | ((with_reducible apply ev_isi); (walk_at "ev"); (walk_at "isi"))
  | ((with_reducible apply ev_isi2); (walk_at "ev"); (walk_at "isi"); (walk_at "isi"))
  | ((with_reducible apply ev_cb); (walk_at "ea"); (walk_at "op"))
  | ((with_reducible apply ev_tupU); (walk_at "ea"); (walk_at "und"); (walk_at "sd"))
  | ((with_reducible apply ev_new); (walk_at "evn"))
  | ((with_reducible apply ev_slT); (walk_at "ev"); (walk_at "eo"); (walk_at "eo"))
  | ((with_reducible apply ev_andV); (walk_at "ev"); (intro _; walk_at "ev"); (intro _; rfl))
  | ((with_reducible apply ev_orV); (walk_at "ev"); (intro _; walk_at "ev"); (intro _; rfl))
  | ((with_reducible apply ev_notV); (walk_at "ev")))
local macro_rules | `(tactic| walk_at "eo") => `(tactic| first
  | with_reducible exact eo_none
  | ((with_reducible apply eo_some); (walk_at "ev")))
local macro_rules | `(tactic| walk_at "et") => `(tactic| first
  | ((with_reducible apply et_test); (walk_at "ev"))
  | ((with_reducible apply et_B); (walk_at "ev"))
  | ((with_reducible apply et_not); (walk_at "et"))
  | ((with_reducible apply et_and); (walk_at "et"); (intro _; walk_at "et"); (intro _; rfl))
  | ((with_reducible apply et_or); (walk_at "et"); (intro _; walk_at "et"); (intro _; rfl)))
local macro_rules | `(tactic| walk_at "w") => `(tactic| first
  | (with_reducible apply w_seq)
  | (with_reducible apply w_next)
  | ((with_reducible apply w_asg); (walk_at "ev"))
  | ((with_reducible apply w_ret); (walk_at "ev"))
  | ((with_reducible apply w_drop); (walk_at "ev"))
  | ((with_reducible apply w_par); (walk_at "ea"))
  | ((with_reducible apply w_tup2); (walk_at "ev"))
  | ((with_reducible apply w_tup3); (walk_at "ev"))
  | ((with_reducible apply w_setI); (walk_at "ev"); (walk_at "ev"); (walk_at "ev"); (walk_at "sd"); (walk_at "sd"))
  | ((with_reducible apply w_if); (walk_at "et")))

variable {P : Program} {w : World} {K : Pw.Fg} {mg : Str → Option Value} {base : Heap} {f : Addr} {fd : FuncData} {ζ : ZA}
/-! ### sign_of, floor_of -/
/-! ### is_number -/
def isNum (d : PyData) : Bool := isI d && !isB d
inductive R_num : Gr
  | mk {d s} : R_num [.d d] s (.d (.bool (isNum d))) s
theorem ok_num (Z : Zx K mg ζ) (G : Fun K "is_number" "is_number" s_is_number f fd) : FnOk P w K mg base CX0 1 f fd ["thing"] (spF K R_num) := by
  refine G.ok sc_is_number (spF_len fun xs s x s' h => by cases h; rfl) (fun cdv A outer s H vs Q E hr ⟨M, xs, st, x, st', h, So, rx, q⟩ => ?_)
  cases h with
  | @mk d =>
  refine ⟨_, (pss_one (ps_ret (pe_and (pe_callB (cbk_isi (K := K)) (by rfl) Z.z_isinstance bt_isinstance (pa_cons (pv 0) (pa_cons (pe_bltn (v := .ty "int") (by rfl) Z.z_int bt_int rfl) pa_nil))) (pe_one (pe_not (pe_callB (cbk_isi (K := K)) (by rfl) Z.z_isinstance bt_isinstance (pa_cons (pv 0) (pa_cons (pe_bltn (v := .ty "bool") (by rfl) Z.z_bool bt_bool rfl) pa_nil)))))))), ?_⟩
  refine w_run So rx ?_
  try simp only [nox_K, cx_K, List.map_cons, List.map_nil]
  have q' := okr_0 q So.len
  walk_at "w"
  exact q'
/-! ### frac -/
abbrev q2 (a b : Int) : PyData := .tuple [.int a, .int b]
abbrev lw (u v : Int) : PyData := .tuple [.int (lwN u v), .int (lwD u v)]
theorem sh2 {a b : Int} : SeqAt.shaped (q2 a b) = true := by rfl
theorem shI {a : Int} : SeqAt.shaped (.int a) = true := by rfl
inductive R_frac : Gr
  | mk {u v s} (h : v ≠ 0) (hu : Sm 4000 u) (hv : Sm 4000 v) : R_frac [.d (.int u), .d (.int v)] s (.d (lw u v)) s
theorem ok_frac (Z : Zx K mg ζ) (G : FunD K "frac" "frac" (defArgs s_frac) (defBody s_frac) (defScope s_frac) [.int 1] [] f fd) : FnOk P w K mg base CX0 1 f fd ["top", "bottom"] (spF K R_frac) := by
  refine G.ok sc_frac (spF_len fun xs s x s' h => by cases h; rfl) (fun cdv A outer s H vs Q E hr ⟨M, xs, st, x, st', h, So, rx, q⟩ => ?_)
  cases h with
  | @mk u v _ h hu hv =>
  refine ⟨_, (pss_cons (ps_if (pt_cmpR (opk_eq (K := K) hr.units) (pv 1) (pe_int) (nomark _)) (pss_one ps_never) pss_nil)
      (pss_cons (ps_set (i := 2) sc_frac.nd rfl (.inl rfl) (pe_callBfun cr_gcd (by rfl) Z.z_gcd (pa_cons (pv 0) (pa_cons (pv 1) pa_nil))))
      (pss_cons (ps_if (pt_cmpR op_ltA (pv 1) (pe_int) (nomark _)) (pss_one (ps_set (i := 2) sc_frac.nd rfl (.inl rfl) (pe_un un_negA (pv 2)))) pss_nil)
      (pss_one (ps_ret (pe_tup (pa_cons (pe_op op_fdivA (pv 0) (pv 2)) (pa_cons (pe_op op_fdivA (pv 1) (pv 2)) pa_nil)))))))), ?_⟩
  refine w_run So rx ?_
  try simp only [nox_K, cx_K, List.map_cons, List.map_nil]
  have q' := okr_0 q So.len
  have hg : Sm 4000 ((Nat.gcd u.natAbs v.natAbs : Nat) : Int) := hv.le (by
    rw [Int.natAbs_natCast]
    exact Nat.le_of_dvd (by omega) (Nat.gcd_dvd_right _ _))
  have g0 := gcd_pos (u := u) h
  iterate 2 (walk_at "w")
  · intro c
    exact absurd (beq_iff_eq.mp c) h
  · intro _
    iterate 5 (walk_at "w")
    · intro c
      have hc : v < 0 := of_decide_eq_true c
      have e1 := frac_N (u := u) h
      have e2 := frac_D (u := u) h
      rw [if_pos hc] at e1 e2
      have c1 : ∀ i, CF i (-((Nat.gcd u.natAbs v.natAbs : Nat) : Int)) := fun i => cf_sm (by omega) hg.neg
      have c2 := c1 u
      have c3 := c1 v
      iterate 2 (walk_at "w")
      exact q'.is (by rw [e1, e2])
    · intro c
      have hc : ¬ v < 0 := of_decide_eq_false c
      have e1 := frac_N (u := u) h
      have e2 := frac_D (u := u) h
      rw [if_neg hc] at e1 e2
      have c1 : ∀ i, CF i ((Nat.gcd u.natAbs v.natAbs : Nat) : Int) := fun i => cf_sm (by omega) hg
      have c2 := c1 u
      have c3 := c1 v
      iterate 2 (walk_at "w")
      exact q'.is (by rw [e1, e2])
/-! ### plus, minus, times, over -/
inductive R_plus : Gr
  | mk {a b c d s} (hb : b ≠ 0) (hd : d ≠ 0) (ha' : Sm 1000 a) (hb' : Sm 1000 b) (hc' : Sm 1000 c) (hd' : Sm 1000 d) : R_plus [.d (q2 a b), .d (q2 c d)] s (.d (lw (a * d + c * b) (b * d))) s
inductive R_times : Gr
  | mk {a b c d s} (hb : b ≠ 0) (hd : d ≠ 0) (ha' : Sm 1000 a) (hb' : Sm 1000 b) (hc' : Sm 1000 c) (hd' : Sm 1000 d) : R_times [.d (q2 a b), .d (q2 c d)] s (.d (lw (a * c) (b * d))) s
theorem fr_mk {n m : Nat} {u v : Int} {s : Sto} (hu : Sm n u) (hv : Sm m v) (h : v ≠ 0) (hn : n ≤ 4000 := by decide) (hm : m ≤ 4000 := by decide) : R_frac [.d (.int u), .d (.int v)] s (.d (lw u v)) s := .mk h (hu.mono hn) (hv.mono hm)
section
local macro_rules | `(tactic| walk_at "call") => `(tactic| exact fr_mk (by assumption) (by assumption) (by assumption))
theorem ok_plus (c_frac : Cb P w K mg base "frac" 1 [] (spF K R_frac)) (G : Fun K "plus" "plus" s_plus f fd) : FnOk P w K mg base CX0 2 f fd ["one", "other"] (spF K R_plus) := by
  refine G.ok sc_plus (spF_len fun xs s x s' h => by cases h; rfl) (fun cdv A outer s H vs Q E hr ⟨M, xs, st, x, st', h, So, rx, q⟩ => ?_)
  cases h with
  | @mk a b c d _ hb hd ha' hb' hc' hd' =>
  refine ⟨_, (pss_one (ps_ret (pe_cb c_frac (hr.mono (by decide)) (by rfl) (pa_cons (pe_op (opk_plus (K := K)) (pe_op op_times (pe_ix (ixk (K := K)) (pv 0) (pe_int) (fun _ _ => rfl)) (pe_ix (ixk (K := K)) (pv 1) (pe_int) (fun _ _ => rfl))) (pe_op op_times (pe_ix (ixk (K := K)) (pv 1) (pe_int) (fun _ _ => rfl)) (pe_ix (ixk (K := K)) (pv 0) (pe_int) (fun _ _ => rfl)))) (pa_cons (pe_op op_times (pe_ix (ixk (K := K)) (pv 0) (pe_int) (fun _ _ => rfl)) (pe_ix (ixk (K := K)) (pv 1) (pe_int) (fun _ _ => rfl))) pa_nil))))), ?_⟩
  refine w_run So rx ?_
  try simp only [nox_K, cx_K, List.map_cons, List.map_nil]
  have q' := okr_0 q So.len
  have z1 := (ha'.mul hd').add (hc'.mul hb')
  have z2 := hb'.mul hd'
  have z3 : b * d ≠ 0 := Int.mul_ne_zero hb hd
  walk_at "w"
  exact q'
theorem ok_times (c_frac : Cb P w K mg base "frac" 1 [] (spF K R_frac)) (G : Fun K "times" "times" s_times f fd) : FnOk P w K mg base CX0 2 f fd ["one", "other"] (spF K R_times) := by
  refine G.ok sc_times (spF_len fun xs s x s' h => by cases h; rfl) (fun cdv A outer s H vs Q E hr ⟨M, xs, st, x, st', h, So, rx, q⟩ => ?_)
  cases h with
  | @mk a b c d _ hb hd ha' hb' hc' hd' =>
  refine ⟨_, (pss_one (ps_ret (pe_cb c_frac (hr.mono (by decide)) (by rfl) (pa_cons (pe_op op_times (pe_ix (ixk (K := K)) (pv 0) (pe_int) (fun _ _ => rfl)) (pe_ix (ixk (K := K)) (pv 1) (pe_int) (fun _ _ => rfl))) (pa_cons (pe_op op_times (pe_ix (ixk (K := K)) (pv 0) (pe_int) (fun _ _ => rfl)) (pe_ix (ixk (K := K)) (pv 1) (pe_int) (fun _ _ => rfl))) pa_nil))))), ?_⟩
  refine w_run So rx ?_
  try simp only [nox_K, cx_K, List.map_cons, List.map_nil]
  have q' := okr_0 q So.len
  have z1 := ha'.mul hc'
  have z2 := hb'.mul hd'
  have z3 : b * d ≠ 0 := Int.mul_ne_zero hb hd
  walk_at "w"
  exact q'
end
end
end K05
namespace K05
open PySem L2 Pw Km
section
local macro_rules | `(tactic| walk_at "sd") => `(tactic| first | rfl | assumption | exact Nat.le_of_ble_eq_true rfl | decide | omega | (walk_at "sd2"))
local macro_rules | `(tactic| walk_at "sd2") => `(tactic| first | exact cm_sm (by assumption) (by assumption) | exact cf_sm (by assumption) (by assumption) | ((with_reducible apply gs); (walk_at "sd")) | exact cm_fm7 | exact cm_if | exact cm_l (by omega) (by omega) | exact cm_r (by omega) (by omega) | exact cf_c (by omega) (by omega))
local macro_rules | `(tactic| walk_at "isi") => `(tactic| with_reducible first | exact kit_int | exact kit_bool | exact kit_tuple | exact kit_list | exact kit_str)
local macro_rules | `(tactic| walk_at "und") => `(tactic| with_reducible repeat (first | exact Und.nil | apply Und.cons))
local macro_rules | `(tactic| walk_at "op") => `(tactic| (first
  | with_reducible exact o_add | with_reducible exact o_minus | with_reducible exact o_lt | with_reducible exact o_gt | with_reducible exact o_le | with_reducible exact o_ge | with_reducible exact o_neg
  | with_reducible exact o_isN | with_reducible exact o_isntN | with_reducible exact o_isB | with_reducible exact o_isntB | with_reducible exact o_neS | with_reducible exact o_eqS
  | with_reducible exact o_abs | with_reducible exact o_intB | with_reducible exact o_min2 | with_reducible exact o_max2 | with_reducible exact o_lenL | with_reducible exact o_lenT | with_reducible exact o_lenC | with_reducible exact o_gcd
  | with_reducible apply o_ixT | with_reducible apply o_ixL | with_reducible apply o_ixM | with_reducible apply o_ixS | with_reducible apply o_lenM
  | with_reducible apply o_mul | with_reducible apply o_fdiv | with_reducible apply o_mod | with_reducible apply o_pow | with_reducible apply o_eq | with_reducible apply o_ne | with_reducible apply o_catT | with_reducible apply o_repr | with_reducible apply o_all) <;> walk_at "sd")
local macro_rules | `(tactic| walk_at "opn") => `(tactic| (first
  | with_reducible apply o_cat | with_reducible apply o_repI | with_reducible exact o_listT | with_reducible exact o_listL) <;> walk_at "sd")
local macro_rules | `(tactic| walk_at "ea") => `(tactic| first
  | with_reducible exact eva_nil
  | ((with_reducible apply eva_cons); (walk_at "ev"); (walk_at "ea")))
local macro_rules | `(tactic| walk_at "call") => `(tactic| fail)
local macro_rules | `(tactic| walk_at "evn") => `(tactic| first
  | ((with_reducible apply evn_lstU); (walk_at "ea"); (walk_at "und"); (walk_at "sd"))
  | ((with_reducible apply evn_op); (walk_at "ev"); (walk_at "ev"); (walk_at "opn"))
  | ((with_reducible apply evn_cb); (walk_at "ea"); (walk_at "opn"))
  | ((with_reducible apply evn_call); (walk_at "ea"); (walk_at "call")))
local macro_rules | `(tactic| walk_at "ev") => `(tactic| first
  | with_reducible exact ev_int | with_reducible exact ev_bl | with_reducible exact ev_non | with_reducible exact ev_str
  | ((with_reducible apply ev_var); rfl)
  | ((with_reducible apply ev_op); (walk_at "ev"); (walk_at "ev"); (walk_at "op"))
  | ((with_reducible apply ev_un); (walk_at "ev"); (walk_at "op"))
  | ((with_reducible apply ev_call); (walk_at "ea"); (walk_at "call"))
  | ((with_reducible apply ev_callD); (walk_at "ea"); (intro _ _; exact rxs_1); (walk_at "call"))
  | ((with_reducible apply ev_callK); (walk_at "ea"); rfl; (intro _ _ _ hh; first | exact rxs_swap2 hh | exact rxs_same1 hh); (walk_at "call"))
  | ((with_reducible apply ev_isi); (walk_at "ev"); (walk_at "isi"))
  | ((with_reducible apply ev_isi2); (walk_at "ev"); (walk_at "isi"); (walk_at "isi"))
  | ((with_reducible apply ev_cb); (walk_at "ea"); (walk_at "op"))
  | ((with_reducible apply ev_tupU); (walk_at "ea"); (walk_at "und"); (walk_at "sd"))
  | ((with_reducible apply ev_new); (walk_at "evn"))
  | ((with_reducible apply ev_slT); (walk_at "ev"); (walk_at "eo"); (walk_at "eo"))
  | ((with_reducible apply ev_andV); (walk_at "ev"); (intro _; walk_at "ev"); (intro _; rfl))
  | ((with_reducible apply ev_orV); (walk_at "ev"); (intro _; walk_at "ev"); (intro _; rfl))
  | ((with_reducible apply ev_notV); (walk_at "ev")))
local macro_rules | `(tactic| walk_at "eo") => `(tactic| first
  | with_reducible exact eo_none
  | ((with_reducible apply eo_some); (walk_at "ev")))
local macro_rules | `(tactic| walk_at "et") => `(tactic| first
  | ((with_reducible apply et_test); (walk_at "ev"))
  | ((with_reducible apply et_B); (walk_at "ev"))
  | ((with_reducible apply et_not); (walk_at "et"))
  | ((with_reducible apply et_and); (walk_at "et"); (intro _; walk_at "et"); (intro _; rfl))
  | ((with_reducible apply et_or); (walk_at "et"); (intro _; walk_at "et"); (intro _; rfl)))
local macro_rules | `(tactic| walk_at "w") => `(tactic| first
  | (with_reducible apply w_seq)
  | (with_reducible apply w_next)
  | ((with_reducible apply w_asg); (walk_at "ev"))
  | ((with_reducible apply w_ret); (walk_at "ev"))
  | ((with_reducible apply w_drop); (walk_at "ev"))
  | ((with_reducible apply w_par); (walk_at "ea"))
  | ((with_reducible apply w_tup2); (walk_at "ev"))
  | ((with_reducible apply w_tup3); (walk_at "ev"))
  | ((with_reducible apply w_setI); (walk_at "ev"); (walk_at "ev"); (walk_at "ev"); (walk_at "sd"); (walk_at "sd"))
  | ((with_reducible apply w_if); (walk_at "et")))

variable {P : Program} {w : World} {K : Pw.Fg} {mg : Str → Option Value} {base : Heap} {f : Addr} {fd : FuncData} {ζ : ZA}
/-! ### cells, the box, a draw -/
inductive R_cell : Gr
  | mk {ns k s} (hk : 0 ≤ k) : R_cell [.scr ns, .d (.int k)] s (.d (.int (cell ns k))) s
theorem ok_cell (Z : Zx K mg ζ) (G : Fun K "_law_cell_at" "_law_cell_at" s__law_cell_at f fd) : FnOk P w K mg base CX0 1 f fd ["_law_script", "_law_k"] (spF K R_cell) := by
  refine G.ok sc__law_cell_at (spF_len fun xs s x s' h => by cases h; rfl) (fun cdv A outer s H vs Q E hr ⟨M, xs, st, x, st', h, So, rx, q⟩ => ?_)
  cases h with
  | @mk ns k _ hk =>
  refine ⟨_, (pss_cons (ps_if (pt_cmpR op_ltA (pv 1) (pe_callB (cbk_len (K := K)) (by rfl) Z.z_len bt_len (pa_cons (pv 0) pa_nil)) (nomark _)) (pss_one (ps_ret (pe_ix (ixk (K := K)) (pv 0) (pv 1) (fun _ _ => rfl)))) pss_nil)
      (pss_one (ps_ret (pe_int)))), ?_⟩
  refine w_run So rx ?_
  try simp only [nox_K, cx_K, List.map_cons, List.map_nil]
  have q' := okr_0 q So.len
  iterate 2 (walk_at "w")
  · intro c
    have hc := of_decide_eq_true c
    have e := atI_cell hk hc
    walk_at "w"
    exact q'
  · intro c
    have hc := of_decide_eq_false c
    have e : cell ns k = 0 := if_neg hc
    iterate 2 (walk_at "w")
    exact q'.is (by rw [e])
inductive R_box : GrN
  | mk {ns k s} (hk : 0 ≤ k) : R_box [.scr ns, .d (.int k)] s (bxl (mkB (cell ns k) k)) s
theorem ok_box (Z : Zx K mg ζ) (c__law_cell_at : Cb P w K mg base "_law_cell_at" 1 [] (spF K R_cell)) (G : Fun K "_law_box" "_law_box" s__law_box f fd) : FnOk P w K mg base CX0 2 f fd ["_law_script", "_law_k"] (spN K R_box) := by
  refine G.ok sc__law_box (spN_len fun xs s x s' h => by cases h; rfl) (fun cdv A outer s H vs Q E hr ⟨M, xs, st, x, st', h, So, rx, q⟩ => ?_)
  cases h with
  | @mk ns k _ hk =>
  refine ⟨_, (pss_cons (ps_set (i := 2) sc__law_box.nd rfl (.inl rfl) (pe_cb c__law_cell_at (hr.mono (by decide)) (by rfl) (pa_cons (pv 0) (pa_cons (pv 1) pa_nil))))
      (pss_one (ps_ret (pe_lst (pa_cons (pe_op op_times (pe_callB cb_abs (by rfl) Z.z_abs bt_abs (pa_cons (pv 2) pa_nil)) (pe_callTy cb_int (by rfl) Z.z_int bt_int (pa_cons (pe_cmpR op_geA (pe_callB cb_abs (by rfl) Z.z_abs bt_abs (pa_cons (pv 2) pa_nil)) (pe_op op_powA (pe_int) (pe_int)) (nomark _)) pa_nil))) (pa_cons (pe_op (opk_plus (K := K)) (pe_op (opk_plus (K := K)) (pe_op op_modA (pv 2) (pe_int)) (pe_op op_times (pe_int) (pv 1))) (pe_int)) (pa_cons (pe_int) pa_nil))))))), ?_⟩
  refine w_run So rx ?_
  try simp only [nox_K, cx_K, List.map_cons, List.map_nil]
  walk_at "w"
  with_reducible apply w_asg
  · with_reducible apply ev_call
    · walk_at "ea"
    · exact .mk hk
  · have hp : CPow 10 18 := ⟨by decide, by decide, by decide⟩
    with_reducible apply w_retN
    · walk_at "evn"
    · exact So.len
    · exact q
inductive R_take : Gr
  | mk {l b n c s} (hl : s[l]? = some (bxl b)) (hn : 0 < n) (hn2 : n < 2 ^ 29) (hc : Bk c b) (hc2 : c ≤ 2 ^ 40) : R_take [.loc l, .d (.int n)] s (.d (.int (tkR b n))) (s.set l (bxl (tkB b n)))
theorem ok_take (G : Fun K "_law_take" "_law_take" s__law_take f fd) : FnOk P w K mg base CX0 1 f fd ["_law_box_here", "_law_size"] (spF K R_take) := by
  refine G.ok sc__law_take (spF_len fun xs s x s' h => by cases h; rfl) (fun cdv A outer s H vs Q E hr ⟨M, xs, st, x, st', h, So, rx, q⟩ => ?_)
  cases h with
  | @mk l b n c _ hl hn hn2 hc hc2 =>
  refine ⟨_, (pss_cons (ps_if (pt_cmpR op_gtA (pe_ix (ixk (K := K)) (pv 0) (pe_int) (fun _ _ => rfl)) (pe_int) (nomark _)) (pss_cons (ps_set (i := 2) sc__law_take.nd rfl (.inl rfl) (pe_op op_modA (pe_ix (ixk (K := K)) (pv 0) (pe_int) (fun _ _ => rfl)) (pv 1)))
      (pss_cons (ps_asg (pe_op op_fdivA (pe_ix (ixk (K := K)) (pv 0) (pe_int) (fun _ _ => rfl)) (pv 1)) (pg_sub (pv 0) (pe_int) set_list))
      (pss_one (ps_ret (pv 2))))) pss_nil)
      (pss_cons (ps_asg (pe_op (opk_plus (K := K)) (pe_ix (ixk (K := K)) (pv 0) (pe_int) (fun _ _ => rfl)) (pe_int)) (pg_sub (pv 0) (pe_int) set_list))
      (pss_cons (ps_set (i := 3) sc__law_take.nd rfl (.inl rfl) (pe_op op_modA (pe_op op_times (pe_op (opk_plus (K := K)) (pe_ix (ixk (K := K)) (pv 0) (pe_int) (fun _ _ => rfl)) (pe_op op_times (pe_int) (pe_ix (ixk (K := K)) (pv 0) (pe_int) (fun _ _ => rfl)))) (pe_op (opk_plus (K := K)) (pe_int) (pe_ix (ixk (K := K)) (pv 0) (pe_int) (fun _ _ => rfl)))) (pe_int)))
      (pss_cons (ps_set (i := 4) sc__law_take.nd rfl (.inl rfl) (pe_op op_modA (pe_op op_times (pe_op (opk_plus (K := K)) (pe_op (opk_plus (K := K)) (pv 3) (pe_ix (ixk (K := K)) (pv 0) (pe_int) (fun _ _ => rfl))) (pe_op op_fdivA (pe_ix (ixk (K := K)) (pv 0) (pe_int) (fun _ _ => rfl)) (pe_int))) (pe_op (opk_plus (K := K)) (pe_op op_modA (pv 3) (pe_int)) (pe_int))) (pe_int)))
      (pss_one (ps_ret (pe_op op_modA (pe_op op_fdivA (pe_op op_modA (pe_op (opk_plus (K := K)) (pe_op op_times (pv 4) (pe_int)) (pv 3)) (pe_int)) (pe_int)) (pv 1)))))))), ?_⟩
  refine w_run So rx ?_
  try simp only [nox_K, cx_K, List.map_cons, List.map_nil]
  have q' := okr_0 q (by rw [List.length_set]; exact So.len)
  obtain ⟨z0, z1⟩ := hc
  unfold tkR tkB at q'
  iterate 2 (walk_at "w")
  · intro c
    rw [if_pos (of_decide_eq_true c), if_pos (of_decide_eq_true c)] at q'
    iterate 5 (walk_at "w")
    exact q'
  · intro c
    rw [if_neg (of_decide_eq_false c), if_neg (of_decide_eq_false c)] at q'
    iterate 8 (walk_at "w")
    exact q'
inductive R_of : Gr
  | mk {l b ds c s d} (hl : s[l]? = some (bxl b)) (hz : 0 < ds.length) (hz2 : ds.length ≤ 1000000) (hc : Bk c b) (hc2 : c ≤ 2 ^ 40) (hd : ds[(tkR b (ds.length : Nat)).toNat]? = some d) : R_of [.loc l, .d (.list ds)] s (.d d) (s.set l (bxl (tkB b (ds.length : Nat))))
  | str {l b s} {cs : List Nat} {x : Nat} {c : Nat} (hl : s[l]? = some (bxl b)) (hz : 0 < cs.length) (hz2 : cs.length ≤ 1000000) (hc : Bk c b) (hc2 : c ≤ 2 ^ 40) (hd : cs[(tkR b (cs.length : Nat)).toNat]? = some x) : R_of [.loc l, .d (.str (SX.S cs))] s (.d (.str (SX.S [x]))) (s.set l (bxl (tkB b (cs.length : Nat))))
theorem ok_of (Z : Zx K mg ζ) (c__law_take : Cb P w K mg base "_law_take" 1 [] (spF K R_take)) (G : Fun K "_law_of" "_law_of" s__law_of f fd) : FnOk P w K mg base CX0 2 f fd ["_law_box_here", "_law_some"] (spF K R_of) := by
  refine G.ok sc__law_of (spF_len fun xs s x s' h => by cases h <;> rfl) (fun cdv A outer s H vs Q E hr ⟨M, xs, st, x, st', h, So, rx, q⟩ => ?_)
  cases h with
  | @mk l b ds c _ d hl hz hz2 hc hc2 hd =>
  refine ⟨_, (pss_one (ps_ret (pe_ix (ixk (K := K)) (pv 1) (pe_cb c__law_take (hr.mono (by decide)) (by rfl) (pa_cons (pv 0) (pa_cons (pe_callB (cbk_len (K := K)) (by rfl) Z.z_len bt_len (pa_cons (pv 1) pa_nil)) pa_nil))) (fun _ _ => rfl)))), ?_⟩
  refine w_run So rx ?_
  try simp only [nox_K, cx_K, List.map_cons, List.map_nil]
  have q' := okr_0 q (by rw [List.length_set]; exact So.len)
  have hr2 := tk_r (b := b) (n := (ds.length : Nat)) (by omega)
  have e : atI ds (tkR b (ds.length : Nat)) = some d := by
    have e := atI_nat hd
    rw [Int.toNat_of_nonneg hr2.1] at e
    exact e
  with_reducible apply w_ret
  · with_reducible apply ev_op
    · walk_at "ev"
    · with_reducible apply ev_call
      · walk_at "ea"
      · exact .mk hl (by omega) (by omega) hc hc2
    · walk_at "op"
  · exact q'
  | @str l b _ cs x c hl hz hz2 hc hc2 hd =>
  refine ⟨_, (pss_one (ps_ret (pe_ix (ixk (K := K)) (pv 1) (pe_cb c__law_take (hr.mono (by decide)) (by rfl) (pa_cons (pv 0) (pa_cons (pe_callB (cbk_len (K := K)) (by rfl) Z.z_len bt_len (pa_cons (pv 1) pa_nil)) pa_nil))) (fun _ _ => rfl)))), ?_⟩
  refine w_run So rx ?_
  try simp only [nox_K, cx_K, List.map_cons, List.map_nil]
  have q' := okr_0 q (by rw [List.length_set]; exact So.len)
  have hr2 := tk_r (b := b) (n := (cs.length : Nat)) (by omega)
  have e : atI cs (tkR b (cs.length : Nat)) = some x := by
    have e := atI_nat hd
    rw [Int.toNat_of_nonneg hr2.1] at e
    exact e
  refine w_ret (ev_op (ev_var rfl) (ev_call (eva_cons (ev_var rfl) (eva_cons (Ev.is (ev_cb (eva_cons (ev_var rfl) eva_nil) (o_lenS (by rw [len_S]; omega))) (by rw [len_S])) eva_nil)) (.mk hl (by omega) (by omega) hc hc2)) (o_ixSg e hz2)) q'
end
end K05
namespace K05
open PySem L2 Pw Km
section
local macro_rules | `(tactic| walk_at "sd") => `(tactic| first | rfl | assumption | exact Nat.le_of_ble_eq_true rfl | decide | omega | (walk_at "sd2"))
local macro_rules | `(tactic| walk_at "sd2") => `(tactic| first | exact cm_sm (by assumption) (by assumption) | exact cf_sm (by assumption) (by assumption) | ((with_reducible apply gs); (walk_at "sd")) | exact cm_fm7 | exact cm_if | exact cm_l (by omega) (by omega) | exact cm_r (by omega) (by omega) | exact cf_c (by omega) (by omega))
local macro_rules | `(tactic| walk_at "isi") => `(tactic| with_reducible first | exact kit_int | exact kit_bool | exact kit_tuple | exact kit_list | exact kit_str)
local macro_rules | `(tactic| walk_at "und") => `(tactic| with_reducible repeat (first | exact Und.nil | apply Und.cons))
local macro_rules | `(tactic| walk_at "op") => `(tactic| (first
  | with_reducible exact o_add | with_reducible exact o_minus | with_reducible exact o_lt | with_reducible exact o_gt | with_reducible exact o_le | with_reducible exact o_ge | with_reducible exact o_neg
  | with_reducible exact o_isN | with_reducible exact o_isntN | with_reducible exact o_isB | with_reducible exact o_isntB | with_reducible exact o_neS | with_reducible exact o_eqS
  | with_reducible exact o_abs | with_reducible exact o_intB | with_reducible exact o_min2 | with_reducible exact o_max2 | with_reducible exact o_lenL | with_reducible exact o_lenT | with_reducible exact o_lenC | with_reducible exact o_gcd
  | with_reducible apply o_ixT | with_reducible apply o_ixL | with_reducible apply o_ixM | with_reducible apply o_ixS | with_reducible apply o_lenM
  | with_reducible apply o_mul | with_reducible apply o_fdiv | with_reducible apply o_mod | with_reducible apply o_pow | with_reducible apply o_eq | with_reducible apply o_ne | with_reducible apply o_catT | with_reducible apply o_repr | with_reducible apply o_all) <;> walk_at "sd")
local macro_rules | `(tactic| walk_at "opn") => `(tactic| (first
  | with_reducible apply o_cat | with_reducible apply o_repI | with_reducible exact o_listT | with_reducible exact o_listL) <;> walk_at "sd")
local macro_rules | `(tactic| walk_at "ea") => `(tactic| first
  | with_reducible exact eva_nil
  | ((with_reducible apply eva_cons); (walk_at "ev"); (walk_at "ea")))
local macro_rules | `(tactic| walk_at "call") => `(tactic| fail)
local macro_rules | `(tactic| walk_at "evn") => `(tactic| first
  | ((with_reducible apply evn_lstU); (walk_at "ea"); (walk_at "und"); (walk_at "sd"))
  | ((with_reducible apply evn_op); (walk_at "ev"); (walk_at "ev"); (walk_at "opn"))
  | ((with_reducible apply evn_cb); (walk_at "ea"); (walk_at "opn"))
  | ((with_reducible apply evn_call); (walk_at "ea"); (walk_at "call")))
local macro_rules | `(tactic| walk_at "ev") => `(tactic| first
  | with_reducible exact ev_int | with_reducible exact ev_bl | with_reducible exact ev_non | with_reducible exact ev_str
  | ((with_reducible apply ev_var); rfl)
  | ((with_reducible apply ev_op); (walk_at "ev"); (walk_at "ev"); (walk_at "op"))
  | ((with_reducible apply ev_un); (walk_at "ev"); (walk_at "op"))
  | ((with_reducible apply ev_call); (walk_at "ea"); (walk_at "call"))
  | ((with_reducible apply ev_callD); (walk_at "ea"); (intro _ _; exact rxs_1); (walk_at "call"))
  | ((with_reducible apply ev_callK); (walk_at "ea"); rfl; (intro _ _ _ hh; first | exact rxs_swap2 hh | exact rxs_same1 hh); (walk_at "call"))
  | ((with_reducible apply ev_isi); (walk_at "ev"); (walk_at "isi"))
  | ((with_reducible apply ev_isi2); (walk_at "ev"); (walk_at "isi"); (walk_at "isi"))
  | ((with_reducible apply ev_cb); (walk_at "ea"); (walk_at "op"))
  | ((with_reducible apply ev_tupU); (walk_at "ea"); (walk_at "und"); (walk_at "sd"))
  | ((with_reducible apply ev_new); (walk_at "evn"))
  | ((with_reducible apply ev_slT); (walk_at "ev"); (walk_at "eo"); (walk_at "eo"))
  | ((with_reducible apply ev_andV); (walk_at "ev"); (intro _; walk_at "ev"); (intro _; rfl))
  | ((with_reducible apply ev_orV); (walk_at "ev"); (intro _; walk_at "ev"); (intro _; rfl))
  | ((with_reducible apply ev_notV); (walk_at "ev")))
local macro_rules | `(tactic| walk_at "eo") => `(tactic| first
  | with_reducible exact eo_none
  | ((with_reducible apply eo_some); (walk_at "ev")))
local macro_rules | `(tactic| walk_at "et") => `(tactic| first
  | ((with_reducible apply et_test); (walk_at "ev"))
  | ((with_reducible apply et_B); (walk_at "ev"))
  | ((with_reducible apply et_not); (walk_at "et"))
  | ((with_reducible apply et_and); (walk_at "et"); (intro _; walk_at "et"); (intro _; rfl))
  | ((with_reducible apply et_or); (walk_at "et"); (intro _; walk_at "et"); (intro _; rfl)))
local macro_rules | `(tactic| walk_at "w") => `(tactic| first
  | (with_reducible apply w_seq)
  | (with_reducible apply w_next)
  | ((with_reducible apply w_asg); (walk_at "ev"))
  | ((with_reducible apply w_ret); (walk_at "ev"))
  | ((with_reducible apply w_drop); (walk_at "ev"))
  | ((with_reducible apply w_par); (walk_at "ea"))
  | ((with_reducible apply w_tup2); (walk_at "ev"))
  | ((with_reducible apply w_tup3); (walk_at "ev"))
  | ((with_reducible apply w_setI); (walk_at "ev"); (walk_at "ev"); (walk_at "ev"); (walk_at "sd"); (walk_at "sd"))
  | ((with_reducible apply w_if); (walk_at "et")))

variable {P : Program} {w : World} {K : Pw.Fg} {mg : Str → Option Value} {base : Heap} {f : Addr} {fd : FuncData} {ζ : ZA}
/-! ### the law's own fraction -/
theorem ok_lfrac (Z : Zx K mg ζ) (G : Fun K "_law_frac" "_law_frac" s__law_frac f fd) : FnOk P w K mg base CX0 1 f fd ["_law_top", "_law_under"] (spF K R_frac) := by
  refine G.ok sc__law_frac (spF_len fun xs s x s' h => by cases h; rfl) (fun cdv A outer s H vs Q E hr ⟨M, xs, st, x, st', h, So, rx, q⟩ => ?_)
  cases h with
  | @mk u v _ h hu hv =>
  refine ⟨_, (pss_cons (ps_par (i := 2) (j := 3) (by rfl) sc__law_frac.nd rfl rfl (by decide) rfl rfl (pa_cons (pe_callB cb_abs (by rfl) Z.z_abs bt_abs (pa_cons (pv 0) pa_nil)) (pa_cons (pe_callB cb_abs (by rfl) Z.z_abs bt_abs (pa_cons (pv 1) pa_nil)) pa_nil)) (by rfl))
      (pss_cons (ps_while PassesOwn.never (pt_cmpR op_gtA (pv 3) (pe_int) (nomark _)) (pss_one (ps_par (i := 2) (j := 3) (by rfl) sc__law_frac.nd rfl rfl (by decide) rfl rfl (pa_cons (pv 3) (pa_cons (pe_op op_modA (pv 2) (pv 3)) pa_nil)) (by rfl))))
      (pss_cons (ps_set (i := 4) sc__law_frac.nd rfl (.inl rfl) (pe_ifExp (pt_cmpR op_gtA (pv 1) (pe_int) (nomark _)) (pe_int) (pe_un un_negA (pe_int))))
      (pss_one (ps_ret (pe_tup (pa_cons (pe_op op_fdivA (pe_op op_times (pv 4) (pv 0)) (pv 2)) (pa_cons (pe_op op_fdivA (pe_callB cb_abs (by rfl) Z.z_abs bt_abs (pa_cons (pv 1) pa_nil)) (pv 2)) pa_nil)))))))), ?_⟩
  refine w_run So rx ?_
  try simp only [nox_K, cx_K, List.map_cons, List.map_nil]
  have q' := okr_0 q So.len
  have g0 := gcd_pos (u := u) h
  iterate 3 (walk_at "w")
  refine w_while (fun m ρ s => s = st ∧ ∃ p : Nat, ρ = [some (.d (.int u)), some (.d (.int v)), some (.d (.int (p : Int))), some (.d (.int (m : Int))), none] ∧ Nat.gcd p m = Nat.gcd u.natAbs v.natAbs) ⟨v.natAbs, rfl, u.natAbs, ?_, rfl⟩ ?_
  · rw [abs_if, abs_if]
    rfl
  · rintro m ρ s2 ⟨rfl, p, rfl, hg⟩
    refine ⟨decide (0 < (m : Int)), s2, ?_, ?_, ?_⟩
    · walk_at "et"
    · intro c N hN
      have hm : 0 < m := by
        have := of_decide_eq_true c
        omega
      walk_at "w"
      refine hN (p % m) _ _ (Nat.mod_lt _ hm) ⟨rfl, m, ?_, ?_⟩
      · rw [cast_fmod hm]
        rfl
      · rw [Nat.gcd_comm, ← Nat.gcd_rec, Nat.gcd_comm]
        exact hg
    · intro c
      have hm : m = 0 := by
        have := of_decide_eq_false c
        omega
      subst hm
      rw [Nat.gcd_zero_right] at hg
      subst hg
      have hs : Sm 4000 (((Nat.gcd u.natAbs v.natAbs : Nat)) : Int) := hv.le (by
        rw [Int.natAbs_natCast]
        exact Nat.le_of_dvd (by omega) (Nat.gcd_dvd_right _ _))
      have c1 : ∀ i, CF i (((Nat.gcd u.natAbs v.natAbs : Nat)) : Int) := fun i => cf_sm (by omega) hs
      have c2 := c1 (sg v * u)
      have c3 := c1 (if v < 0 then -v else v)
      have c4 : CM (sg v) u := by
        have := sg_abs v
        exact cm_l (by omega) (by omega)
      walk_at "w"
      with_reducible apply w_asg (x := .d (.int (sg v)))
      · with_reducible apply ev_if
        · walk_at "et"
        · intro cc
          exact ev_int.is (by unfold sg; rw [if_pos (of_decide_eq_true cc)])
        · intro cc
          have e : sg v = -1 := by unfold sg; rw [if_neg (of_decide_eq_false cc)]
          rw [e]
          walk_at "ev"
      · walk_at "w"
        refine q'.is ?_
        rw [abs_if]
        rfl
section
local macro_rules | `(tactic| walk_at "call") => `(tactic| exact fr_mk (by assumption) (by assumption) (by assumption))
end
/-! ### a drawn fraction -/
inductive R_draw : Gr
  | mk {l b n c s} (hl : s[l]? = some (bxl b)) (hn : 0 ≤ n) (hn2 : n ≤ 100000) (hc : Bk c b) (hc2 : c + 2 ≤ 2 ^ 40) : R_draw [.loc l, .d (.int n)] s (.d (lw (drN b n) (drD b n))) ((s.set l (bxl (tkB b (2 * n + 1)))).set l (bxl (drB b n)))
theorem ok_draw (c__law_take : Cb P w K mg base "_law_take" 1 [] (spF K R_take)) (c__law_of : Cb P w K mg base "_law_of" 2 [] (spF K R_of)) (c__law_frac : Cb P w K mg base "_law_frac" 1 [] (spF K R_frac)) (G : Fun K "_law_draw" "_law_draw" s__law_draw f fd) : FnOk P w K mg base CX0 3 f fd ["_law_box_here", "_law_top"] (spF K R_draw) := by
  refine G.ok sc__law_draw (spF_len fun xs s x s' h => by cases h; rfl) (fun cdv A outer s H vs Q E hr ⟨M, xs, st, x, st', h, So, rx, q⟩ => ?_)
  cases h with
  | @mk l b n c _ hl hn hn2 hc hc2 =>
  refine ⟨_, (pss_one (ps_ret (pe_cb c__law_frac (hr.mono (by decide)) (by rfl) (pa_cons (pe_op op_minus (pe_cb c__law_take (hr.mono (by decide)) (by rfl) (pa_cons (pv 0) (pa_cons (pe_op (opk_plus (K := K)) (pe_op op_times (pe_int) (pv 1)) (pe_int)) pa_nil))) (pv 1)) (pa_cons (pe_cb c__law_of (hr.mono (by decide)) (by rfl) (pa_cons (pv 0) (pa_cons (pe_lst (pa_cons (pe_int) (pa_cons (pe_int) (pa_cons (pe_int) (pa_cons (pe_int) (pa_cons (pe_int) (pa_cons (pe_int) pa_nil))))))) pa_nil))) pa_nil))))), ?_⟩
  refine w_run So rx ?_
  try simp only [nox_K, cx_K, List.map_cons, List.map_nil]
  have q' := okr_0 q (by rw [List.length_set, List.length_set]; exact So.len)
  have h1 := drN_le (b := b) hn
  have h2 := drD_le (b := b) (n := n)
  have s1 : Sm 20 (drN b n) := .of 100000 (by omega)
  have s2 : Sm 20 (drD b n) := .of 4 (by omega)
  with_reducible apply w_ret
  · with_reducible apply ev_call
    · with_reducible apply eva_cons
      · with_reducible apply ev_op
        · with_reducible apply ev_call
          · walk_at "ea"
          · exact .mk hl (by omega) (by omega) hc (by omega)
        · walk_at "ev"
        · walk_at "op"
      · with_reducible apply eva_cons
        · with_reducible apply ev_call
          · walk_at "ea"
          · exact R_of.mk (ds := [.int 1, .int 1, .int 1, .int 2, .int 3, .int 4]) (b := tkB b (2 * n + 1)) (c := c + 1) (gs hl) (by decide) (by decide) hc.next (by omega) (drD_at (b := b) (n := n))
        · exact eva_nil
    · exact fr_mk (n := 20) (m := 20) s1 s2 (by omega)
  · exact q'
end
end K05
namespace K05
open PySem L2 Pw Km
/-! ### what is a fraction -/
def isF : PyData → Bool
  | .tuple [.int a, .int b] => decide (0 < b) && PyData.eqv (.int ((Nat.gcd a.natAbs b.natAbs : Nat) : Int)) (.int 1)
  | _ => false
theorem num_int {p : PyData} (h : isNum p = true) : ∃ a, p = .int a := by
  cases p <;> first | exact ⟨_, rfl⟩ | (simp [isNum, isI, isB] at h)
theorem isF_no {p q : PyData} (h : (!isNum p || !isNum q) = true) : isF (.tuple [p, q]) = false := by
  cases p <;> first | rfl | (cases q <;> first | rfl | (simp [isNum, isI, isB] at h))
theorem isF_eq {a b : Int} : (decide (0 < b) && PyData.eqv (lw a b) (q2 a b)) = isF (.tuple [.int a, .int b]) := by
  by_cases h : 0 < b
  · have e := lw_self (u := a) h
    show (decide (0 < b) && ((lwN a b == a) && ((lwD a b == b) && true))) = (decide (0 < b) && (((Nat.gcd a.natAbs b.natAbs : Nat) : Int) == 1))
    rw [decide_eq_true h, Bool.true_and, Bool.true_and, Bool.and_true, Bool.eq_iff_iff, Bool.and_eq_true, beq_iff_eq, beq_iff_eq, beq_iff_eq, e]
    omega
  · show (decide (0 < b) && _) = (decide (0 < b) && _)
    rw [decide_eq_false h]
    rfl
theorem isF_lw {u v : Int} (h : v ≠ 0) : isF (lw u v) = true := by
  have hp := lwD_pos (u := u) h
  have g := gcd_pos (u := u) h
  have e : Nat.gcd (lwN u v).natAbs (lwD u v).natAbs = 1 := by
    have hn : (lwN u v).natAbs = u.natAbs / Nat.gcd u.natAbs v.natAbs := by
      unfold lwN
      rw [Int.fdiv_eq_ediv_of_nonneg _ (by omega)]
      have d : Nat.gcd u.natAbs v.natAbs ∣ (sg v * u).natAbs := by
        rw [Int.natAbs_mul, sg_abs, Nat.one_mul]
        exact Nat.gcd_dvd_left _ _
      rw [Int.natAbs_ediv_of_dvd (Int.ofNat_dvd_left.mpr d), Int.natAbs_mul, sg_abs, Nat.one_mul, Int.natAbs_natCast]
    have hd : (lwD u v).natAbs = v.natAbs / Nat.gcd u.natAbs v.natAbs := by
      unfold lwD
      rw [Int.fdiv_eq_ediv_of_nonneg _ (by omega), ← Int.natCast_ediv, Int.natAbs_natCast]
    rw [hn, hd]
    exact Nat.gcd_div_gcd_div_gcd_of_pos_right (by omega)
  show (decide (0 < lwD u v) && (((Nat.gcd (lwN u v).natAbs (lwD u v).natAbs : Nat) : Int) == 1)) = true
  rw [e, decide_eq_true hp]
  rfl
section
local macro_rules | `(tactic| walk_at "sd") => `(tactic| first | rfl | assumption | exact Nat.le_of_ble_eq_true rfl | decide | omega | (walk_at "sd2"))
local macro_rules | `(tactic| walk_at "sd2") => `(tactic| first | exact cm_sm (by assumption) (by assumption) | exact cf_sm (by assumption) (by assumption) | ((with_reducible apply gs); (walk_at "sd")) | exact cm_fm7 | exact cm_if | exact cm_l (by omega) (by omega) | exact cm_r (by omega) (by omega) | exact cf_c (by omega) (by omega))
local macro_rules | `(tactic| walk_at "isi") => `(tactic| with_reducible first | exact kit_int | exact kit_bool | exact kit_tuple | exact kit_list | exact kit_str)
local macro_rules | `(tactic| walk_at "und") => `(tactic| with_reducible repeat (first | exact Und.nil | apply Und.cons))
local macro_rules | `(tactic| walk_at "op") => `(tactic| (first
  | with_reducible exact o_add | with_reducible exact o_minus | with_reducible exact o_lt | with_reducible exact o_gt | with_reducible exact o_le | with_reducible exact o_ge | with_reducible exact o_neg
  | with_reducible exact o_isN | with_reducible exact o_isntN | with_reducible exact o_isB | with_reducible exact o_isntB | with_reducible exact o_neS | with_reducible exact o_eqS
  | with_reducible exact o_abs | with_reducible exact o_intB | with_reducible exact o_min2 | with_reducible exact o_max2 | with_reducible exact o_lenL | with_reducible exact o_lenT | with_reducible exact o_lenC | with_reducible exact o_gcd
  | with_reducible apply o_ixT | with_reducible apply o_ixL | with_reducible apply o_ixM | with_reducible apply o_ixS | with_reducible apply o_lenM
  | with_reducible apply o_mul | with_reducible apply o_fdiv | with_reducible apply o_mod | with_reducible apply o_pow | with_reducible apply o_eq | with_reducible apply o_ne | with_reducible apply o_catT | with_reducible apply o_repr | with_reducible apply o_all) <;> walk_at "sd")
local macro_rules | `(tactic| walk_at "opn") => `(tactic| (first
  | with_reducible apply o_cat | with_reducible apply o_repI | with_reducible exact o_listT | with_reducible exact o_listL) <;> walk_at "sd")
local macro_rules | `(tactic| walk_at "ea") => `(tactic| first
  | with_reducible exact eva_nil
  | ((with_reducible apply eva_cons); (walk_at "ev"); (walk_at "ea")))
local macro_rules | `(tactic| walk_at "call") => `(tactic| fail)
local macro_rules | `(tactic| walk_at "evn") => `(tactic| first
  | ((with_reducible apply evn_lstU); (walk_at "ea"); (walk_at "und"); (walk_at "sd"))
  | ((with_reducible apply evn_op); (walk_at "ev"); (walk_at "ev"); (walk_at "opn"))
  | ((with_reducible apply evn_cb); (walk_at "ea"); (walk_at "opn"))
  | ((with_reducible apply evn_call); (walk_at "ea"); (walk_at "call")))
local macro_rules | `(tactic| walk_at "ev") => `(tactic| first
  | with_reducible exact ev_int | with_reducible exact ev_bl | with_reducible exact ev_non | with_reducible exact ev_str
  | ((with_reducible apply ev_var); rfl)
  | ((with_reducible apply ev_op); (walk_at "ev"); (walk_at "ev"); (walk_at "op"))
  | ((with_reducible apply ev_un); (walk_at "ev"); (walk_at "op"))
  | ((with_reducible apply ev_call); (walk_at "ea"); (walk_at "call"))
  | ((with_reducible apply ev_callD); (walk_at "ea"); (intro _ _; exact rxs_1); (walk_at "call"))
  | ((with_reducible apply ev_callK); (walk_at "ea"); rfl; (intro _ _ _ hh; first | exact rxs_swap2 hh | exact rxs_same1 hh); (walk_at "call"))
  | ((with_reducible apply ev_isi); (walk_at "ev"); (walk_at "isi"))
  | ((with_reducible apply ev_isi2); (walk_at "ev"); (walk_at "isi"); (walk_at "isi"))
  | ((with_reducible apply ev_cb); (walk_at "ea"); (walk_at "op"))
  | ((with_reducible apply ev_tupU); (walk_at "ea"); (walk_at "und"); (walk_at "sd"))
  | ((with_reducible apply ev_new); (walk_at "evn"))
  | ((with_reducible apply ev_slT); (walk_at "ev"); (walk_at "eo"); (walk_at "eo"))
  | ((with_reducible apply ev_andV); (walk_at "ev"); (intro _; walk_at "ev"); (intro _; rfl))
  | ((with_reducible apply ev_orV); (walk_at "ev"); (intro _; walk_at "ev"); (intro _; rfl))
  | ((with_reducible apply ev_notV); (walk_at "ev")))
local macro_rules | `(tactic| walk_at "eo") => `(tactic| first
  | with_reducible exact eo_none
  | ((with_reducible apply eo_some); (walk_at "ev")))
local macro_rules | `(tactic| walk_at "et") => `(tactic| first
  | ((with_reducible apply et_test); (walk_at "ev"))
  | ((with_reducible apply et_B); (walk_at "ev"))
  | ((with_reducible apply et_not); (walk_at "et"))
  | ((with_reducible apply et_and); (walk_at "et"); (intro _; walk_at "et"); (intro _; rfl))
  | ((with_reducible apply et_or); (walk_at "et"); (intro _; walk_at "et"); (intro _; rfl)))
local macro_rules | `(tactic| walk_at "w") => `(tactic| first
  | (with_reducible apply w_seq)
  | (with_reducible apply w_next)
  | ((with_reducible apply w_asg); (walk_at "ev"))
  | ((with_reducible apply w_ret); (walk_at "ev"))
  | ((with_reducible apply w_drop); (walk_at "ev"))
  | ((with_reducible apply w_par); (walk_at "ea"))
  | ((with_reducible apply w_tup2); (walk_at "ev"))
  | ((with_reducible apply w_tup3); (walk_at "ev"))
  | ((with_reducible apply w_setI); (walk_at "ev"); (walk_at "ev"); (walk_at "ev"); (walk_at "sd"); (walk_at "sd"))
  | ((with_reducible apply w_if); (walk_at "et")))

variable {P : Program} {w : World} {K : Pw.Fg} {mg : Str → Option Value} {base : Heap} {f : Addr} {fd : FuncData} {ζ : ZA}
inductive R_isF : Gr
  | mk {d s} : R_isF [.d d] s (.d (.bool (isF d))) s
section
local macro_rules | `(tactic| walk_at "call") => `(tactic| exact R_num.mk)
theorem ok_isF (Z : Zx K mg ζ) (c_is_number : Cb P w K mg base "is_number" 1 [] (spF K R_num)) (G : Fun K "is_frac" "is_frac" s_is_frac f fd) : FnOk P w K mg base CX0 2 f fd ["thing"] (spF K R_isF) := by
  refine G.ok sc_is_frac (spF_len fun xs s x s' h => by cases h; rfl) (fun cdv A outer s H vs Q E hr ⟨M, xs, st, x, st', h, So, rx, q⟩ => ?_)
  cases h with
  | @mk d =>
  refine ⟨_, (pss_cons (ps_if (PW.pt (pw_or (pt_not (pt_val (pe_callB (cbk_isi (K := K)) (by rfl) Z.z_isinstance bt_isinstance (pa_cons (pv 0) (pa_cons (pe_bltn (v := .ty "tuple") (by rfl) Z.z_tuple bt_tuple rfl) pa_nil))))) (pw_or1 (pt_cmpR (opk_ne (K := K) hr.units) (pe_callB (cbk_len (K := K)) (by rfl) Z.z_len bt_len (pa_cons (pv 0) pa_nil)) (pe_int) (nomark _))))) (pss_one (ps_ret (pe_bl))) pss_nil)
      (pss_cons (ps_asg (pv 0) (pgk_tup (K := K) 2 (by rfl) (pgs_cons (pg_name (i := 1) sc_is_frac.nd rfl (Or.inl rfl)) (pgs_cons (pg_name (i := 2) sc_is_frac.nd rfl (Or.inl rfl)) pgs_nil))))
      (pss_cons (ps_if (PW.pt (pw_or (pt_not (pt_val (pe_cb c_is_number (hr.mono (by decide)) (by rfl) (pa_cons (pv 1) pa_nil)))) (pw_or1 (pt_not (pt_val (pe_cb c_is_number (hr.mono (by decide)) (by rfl) (pa_cons (pv 2) pa_nil))))))) (pss_one (ps_ret (pe_bl))) pss_nil)
      (pss_one (ps_ret (pe_and (pe_cmpR op_gtA (pv 2) (pe_int) (nomark _)) (pe_one (pe_cmpR (opk_eq (K := K) hr.units) (pe_callBfun cr_gcd (by rfl) Z.z_gcd (pa_cons (pv 1) (pa_cons (pv 2) pa_nil))) (pe_int) (nomark _))))))))), ?_⟩
  refine w_run So rx ?_
  try simp only [nox_K, cx_K, List.map_cons, List.map_nil]
  have q' := okr_0 q So.len
  walk_at "w"
  by_cases ht : ∃ ds, d = .tuple ds
  · obtain ⟨ds, rfl⟩ := ht
    walk_at "w"
    · intro c
      have e : isF (.tuple ds) = false := by
        match ds, c with
        | [], _ => rfl
        | [p], _ => cases p <;> rfl
        | [p, q], c => simp [isT, PyData.eqv] at c
        | p :: q :: r :: t, _ => cases p <;> first | rfl | (cases q <;> rfl)
      rw [e] at q'
      walk_at "w"
      exact q'
    · intro c
      obtain ⟨p, r, rfl⟩ : ∃ p r, ds = [p, r] := by
        match ds, c with
        | [], c => simp [isT, PyData.eqv] at c
        | [p], c => simp [isT, PyData.eqv] at c
        | [p, r], _ => exact ⟨p, r, rfl⟩
        | p :: q :: r :: t, c =>
          simp [isT, PyData.eqv] at c
          omega
      iterate 5 (walk_at "w")
      · intro c2
        rw [isF_no c2] at q'
        walk_at "w"
        exact q'
      · intro c2
        rw [Bool.or_eq_false_iff, Bool.not_eq_false', Bool.not_eq_false'] at c2
        obtain ⟨a, rfl⟩ := num_int c2.1
        obtain ⟨b, rfl⟩ := num_int c2.2
        iterate 2 (walk_at "w")
        exact q'
  · have e1 : isT d = false := by
      cases d <;> first | rfl | exact absurd ⟨_, rfl⟩ ht
    have e : isF d = false := by
      cases d <;> first | rfl | exact absurd ⟨_, rfl⟩ ht
    rw [e] at q'
    with_reducible apply w_if (b := true)
    · with_reducible apply et_or1
      refine EvT.is (by walk_at "et") ?_
      rw [e1]
      rfl
    · intro _
      walk_at "w"
      exact q'
    · intro c
      cases c
end
end
end K05
namespace K05
open PySem L2 Pw Km
section
local macro_rules | `(tactic| walk_at "sd") => `(tactic| first | rfl | assumption | exact Nat.le_of_ble_eq_true rfl | decide | omega | (walk_at "sd2"))
local macro_rules | `(tactic| walk_at "sd2") => `(tactic| first | exact cm_sm (by assumption) (by assumption) | exact cf_sm (by assumption) (by assumption) | ((with_reducible apply gs); (walk_at "sd")) | exact cm_fm7 | exact cm_if | exact cm_l (by omega) (by omega) | exact cm_r (by omega) (by omega) | exact cf_c (by omega) (by omega))
local macro_rules | `(tactic| walk_at "isi") => `(tactic| with_reducible first | exact kit_int | exact kit_bool | exact kit_tuple | exact kit_list | exact kit_str)
local macro_rules | `(tactic| walk_at "und") => `(tactic| with_reducible repeat (first | exact Und.nil | apply Und.cons))
local macro_rules | `(tactic| walk_at "op") => `(tactic| (first
  | with_reducible exact o_add | with_reducible exact o_minus | with_reducible exact o_lt | with_reducible exact o_gt | with_reducible exact o_le | with_reducible exact o_ge | with_reducible exact o_neg
  | with_reducible exact o_isN | with_reducible exact o_isntN | with_reducible exact o_isB | with_reducible exact o_isntB | with_reducible exact o_neS | with_reducible exact o_eqS
  | with_reducible exact o_abs | with_reducible exact o_intB | with_reducible exact o_min2 | with_reducible exact o_max2 | with_reducible exact o_lenL | with_reducible exact o_lenT | with_reducible exact o_lenC | with_reducible exact o_gcd
  | with_reducible apply o_ixT | with_reducible apply o_ixL | with_reducible apply o_ixM | with_reducible apply o_ixS | with_reducible apply o_lenM
  | with_reducible apply o_mul | with_reducible apply o_fdiv | with_reducible apply o_mod | with_reducible apply o_pow | with_reducible apply o_eq | with_reducible apply o_ne | with_reducible apply o_catT | with_reducible apply o_repr | with_reducible apply o_all) <;> walk_at "sd")
local macro_rules | `(tactic| walk_at "opn") => `(tactic| (first
  | with_reducible apply o_cat | with_reducible apply o_repI | with_reducible exact o_listT | with_reducible exact o_listL) <;> walk_at "sd")
local macro_rules | `(tactic| walk_at "ea") => `(tactic| first
  | with_reducible exact eva_nil
  | ((with_reducible apply eva_cons); (walk_at "ev"); (walk_at "ea")))
local macro_rules | `(tactic| walk_at "call") => `(tactic| fail)
local macro_rules | `(tactic| walk_at "evn") => `(tactic| first
  | ((with_reducible apply evn_lstU); (walk_at "ea"); (walk_at "und"); (walk_at "sd"))
  | ((with_reducible apply evn_op); (walk_at "ev"); (walk_at "ev"); (walk_at "opn"))
  | ((with_reducible apply evn_cb); (walk_at "ea"); (walk_at "opn"))
  | ((with_reducible apply evn_call); (walk_at "ea"); (walk_at "call")))
local macro_rules | `(tactic| walk_at "ev") => `(tactic| first
  | with_reducible exact ev_int | with_reducible exact ev_bl | with_reducible exact ev_non | with_reducible exact ev_str
  | ((with_reducible apply ev_var); rfl)
  | ((with_reducible apply ev_op); (walk_at "ev"); (walk_at "ev"); (walk_at "op"))
  | ((with_reducible apply ev_un); (walk_at "ev"); (walk_at "op"))
  | ((with_reducible apply ev_call); (walk_at "ea"); (walk_at "call"))
  | ((with_reducible apply ev_callD); (walk_at "ea"); (intro _ _; exact rxs_1); (walk_at "call"))
  | ((with_reducible apply ev_callK); (walk_at "ea"); rfl; (intro _ _ _ hh; first | exact rxs_swap2 hh | exact rxs_same1 hh); (walk_at "call"))
  | ((with_reducible apply ev_isi); (walk_at "ev"); (walk_at "isi"))
  | ((with_reducible apply ev_isi2); (walk_at "ev"); (walk_at "isi"); (walk_at "isi"))
  | ((with_reducible apply ev_cb); (walk_at "ea"); (walk_at "op"))
  | ((with_reducible apply ev_tupU); (walk_at "ea"); (walk_at "und"); (walk_at "sd"))
  | ((with_reducible apply ev_new); (walk_at "evn"))
  | ((with_reducible apply ev_slT); (walk_at "ev"); (walk_at "eo"); (walk_at "eo"))
  | ((with_reducible apply ev_andV); (walk_at "ev"); (intro _; walk_at "ev"); (intro _; rfl))
  | ((with_reducible apply ev_orV); (walk_at "ev"); (intro _; walk_at "ev"); (intro _; rfl))
  | ((with_reducible apply ev_notV); (walk_at "ev")))
local macro_rules | `(tactic| walk_at "eo") => `(tactic| first
  | with_reducible exact eo_none
  | ((with_reducible apply eo_some); (walk_at "ev")))
local macro_rules | `(tactic| walk_at "et") => `(tactic| first
  | ((with_reducible apply et_test); (walk_at "ev"))
  | ((with_reducible apply et_B); (walk_at "ev"))
  | ((with_reducible apply et_not); (walk_at "et"))
  | ((with_reducible apply et_and); (walk_at "et"); (intro _; walk_at "et"); (intro _; rfl))
  | ((with_reducible apply et_or); (walk_at "et"); (intro _; walk_at "et"); (intro _; rfl)))
local macro_rules | `(tactic| walk_at "w") => `(tactic| first
  | (with_reducible apply w_seq)
  | (with_reducible apply w_next)
  | ((with_reducible apply w_asg); (walk_at "ev"))
  | ((with_reducible apply w_ret); (walk_at "ev"))
  | ((with_reducible apply w_drop); (walk_at "ev"))
  | ((with_reducible apply w_par); (walk_at "ea"))
  | ((with_reducible apply w_tup2); (walk_at "ev"))
  | ((with_reducible apply w_tup3); (walk_at "ev"))
  | ((with_reducible apply w_setI); (walk_at "ev"); (walk_at "ev"); (walk_at "ev"); (walk_at "sd"); (walk_at "sd"))
  | ((with_reducible apply w_if); (walk_at "et")))

variable {P : Program} {w : World} {K : Pw.Fg} {mg : Str → Option Value} {base : Heap} {f : Addr} {fd : FuncData} {ζ : ZA}
/-! ### the same, kind by kind -/
inductive R_same (n : Nat) : Gr
  | mk {d s} (h : PyData.canLay0 d = true) (hd : PyData.depth d < n) (hz : nod d ≤ 1000000) (hn : n ≤ 60) : R_same n [.d d, .d d] s (.d (.bool true)) s
theorem ok_same (Z : Zx K mg ζ) (hm : mg "_law_same" = some (.ref f)) (G : Fun K "_law_same" "_law_same" s__law_same f fd) : ∀ n, FnOk P w K mg base CX0 n f fd ["_law_found", "_law_due"] (spF K (R_same n))
  | 0 => ⟨spF_len fun xs s x s' h => by cases h; rfl, fun A outer s H args us vs Q E hr e0 hb hv ⟨M, xs, st, x, st', h, _⟩ => by
    cases h with
    | mk h hd hz hn => exact absurd hd (by omega)⟩
  | n + 1 => by
    have c__law_same : Cb P w K mg base "_law_same" n [] (spF K (R_same n)) := cb_mk G hm (ok_same Z hm G n) fun _ _ _ _ _ _ us hl => match us, hl with | [_, _], _ => rfl
    refine G.ok sc__law_same (spF_len fun xs s x s' h => by cases h; rfl) (fun cdv A outer s H vs Q E hr ⟨M, xs, st, x, st', h, So, rx, q⟩ => ?_)
    cases h with
    | @mk d _ h hd hz hn =>
    refine ⟨_, (pss_cons (ps_if (pt_val (pe_callB (cbk_isiT (K := K)) (by rfl) Z.z_isinstance bt_isinstance (pa_cons (pv 1) (pa_cons (pe_tup (pa_cons (pe_bltn (v := .ty "list") (by rfl) Z.z_list bt_list rfl) (pa_cons (pe_bltn (v := .ty "tuple") (by rfl) Z.z_tuple bt_tuple rfl) pa_nil))) pa_nil)))) (pss_cons (ps_if (PW.pt (pw_or (pt_cmpR (opk_ne (K := K) hr.units) (pe_callB (cbk_isi (K := K)) (by rfl) Z.z_isinstance bt_isinstance (pa_cons (pv 0) (pa_cons (pe_bltn (v := .ty "list") (by rfl) Z.z_list bt_list rfl) pa_nil))) (pe_callB (cbk_isi (K := K)) (by rfl) Z.z_isinstance bt_isinstance (pa_cons (pv 1) (pa_cons (pe_bltn (v := .ty "list") (by rfl) Z.z_list bt_list rfl) pa_nil))) (nomark _)) (pw_or1 (pt_cmpR (opk_ne (K := K) hr.units) (pe_callB (cbk_isi (K := K)) (by rfl) Z.z_isinstance bt_isinstance (pa_cons (pv 0) (pa_cons (pe_bltn (v := .ty "tuple") (by rfl) Z.z_tuple bt_tuple rfl) pa_nil))) (pe_callB (cbk_isi (K := K)) (by rfl) Z.z_isinstance bt_isinstance (pa_cons (pv 1) (pa_cons (pe_bltn (v := .ty "tuple") (by rfl) Z.z_tuple bt_tuple rfl) pa_nil))) (nomark _))))) (pss_one (ps_ret (pe_bl))) pss_nil)
      (pss_one (ps_ret (pe_and (pe_cmpR (opk_eq (K := K) hr.units) (pe_callB (cbk_len (K := K)) (by rfl) Z.z_len bt_len (pa_cons (pv 0) pa_nil)) (pe_callB (cbk_len (K := K)) (by rfl) Z.z_len bt_len (pa_cons (pv 1) pa_nil)) (nomark _)) (pe_one (pe_callB (cbk_all (K := K) rfl) (by rfl) Z.z_all bt_all (pa_cons (pe_lc (own := [("_law_here", 2), ("_law_there", 3)]) rfl sc__law_same.nd (pik_zip (K := K) (by rfl) Z.z_zip (pa_cons (pv 0) (pa_cons (pv 1) pa_nil))) (blkOk_by (own := [("_law_here", 2), ("_law_there", 3)]) (N := N__law_same) (sc := defScope s__law_same) (by decide +kernel)) (fun _ _ _ _ _ => (pgk_tup (K := K) 2 (by rfl) (pgs_cons (pg_name (i := 2) sc__law_same.nd rfl (Or.inl rfl)) (pgs_cons (pg_name (i := 3) sc__law_same.nd rfl (Or.inl rfl)) pgs_nil)))) (fun _ _ _ _ _ => pts_nil) (fun _ _ _ _ _ => pe_cb c__law_same (hr.mono (by omega)) (by rfl) (pa_cons (pv 2) (pa_cons (pv 3) pa_nil)))) pa_nil))))))) pss_nil)
      (pss_cons (ps_if (PW.pt (pw_or (pt_cmpR (opk_ne (K := K) hr.units) (pe_callB (cbk_isi (K := K)) (by rfl) Z.z_isinstance bt_isinstance (pa_cons (pv 0) (pa_cons (pe_bltn (v := .ty "bool") (by rfl) Z.z_bool bt_bool rfl) pa_nil))) (pe_callB (cbk_isi (K := K)) (by rfl) Z.z_isinstance bt_isinstance (pa_cons (pv 1) (pa_cons (pe_bltn (v := .ty "bool") (by rfl) Z.z_bool bt_bool rfl) pa_nil))) (nomark _)) (pw_or1 (pt_cmpR (opk_ne (K := K) hr.units) (pe_callB (cbk_isi (K := K)) (by rfl) Z.z_isinstance bt_isinstance (pa_cons (pv 0) (pa_cons (pe_bltn (v := .ty "int") (by rfl) Z.z_int bt_int rfl) pa_nil))) (pe_callB (cbk_isi (K := K)) (by rfl) Z.z_isinstance bt_isinstance (pa_cons (pv 1) (pa_cons (pe_bltn (v := .ty "int") (by rfl) Z.z_int bt_int rfl) pa_nil))) (nomark _))))) (pss_one (ps_ret (pe_bl))) pss_nil)
      (pss_one (ps_ret (pe_cmpR (opk_eq (K := K) hr.units) (pv 0) (pv 1) (nomark _)))))), ?_⟩
    refine w_run So rx ?_
    try simp only [nox_K, cx_K, List.map_cons, List.map_nil]
    have q' := okr_0 q So.len
    have sB : ∀ b : Bool, SeqAt.shaped (.bool b) = true := fun _ => rfl
    have self : ∀ b : Bool, PyData.eqv (.bool b) (.bool b) = true := fun b => by simp [PyData.eqv]
    walk_at "w"
    by_cases hk : ∃ (ds : List PyData) (wr : List PyData → PyData), (wr = PyData.list ∨ wr = PyData.tuple) ∧ d = wr ds
    · obtain ⟨ds, wr, hw, rfl⟩ := hk
      have hlay : PyData.canLayAll0 ds = true := by
        rcases hw with hw | hw <;> (subst hw; simpa [PyData.canLay0] using h)
      have hdep : PyData.depthAll ds + 1 < n + 1 := by
        rcases hw with hw | hw <;> (subst hw; simpa [PyData.depth] using hd)
      have hnod : nodAll ds ≤ 1000000 := by
        rcases hw with hw | hw <;> (subst hw; simpa [nod] using hz)
      have main : ∀ {s2 : Sto}, EvN K (tLc (RZ.iZipA K (tCons (tVar 0) (tCons (tVar 1) tNil))) (gTup K 2 (gCons (gName 2) (gCons (gName 3) gNil))) tYes (tCall (spF K (R_same n)) [] E0 (tCons (tVar 2) (tCons (tVar 3) tNil))) [2, 3]) (rho0 N__law_same [.d (wr ds), .d (wr ds)]) s2 ((ds.map fun _ => true).map PyData.bool) s2 := fun {s2} => by
        refine evn_lcZ (S := fun _ => s2) (ds := ds) (fs := ds) hw (by walk_at "ea") rfl (by simp) ?_ ?_
        · rw [List.length_map, List.length_map]
          exact Nat.le_trans (nod_len ds) hnod
        · intro i d f e h1 h2 h3
          rw [h1] at h2
          cases h2
          rw [List.map_map, List.getElem?_map, h1] at h3
          cases h3
          with_reducible apply ev_call
          · walk_at "ea"
          · refine .mk (lay_mem hlay h1) ?_ (Nat.le_trans (nod_mem h1) hnod) (by omega)
            have := dep_mem h1
            omega
      have fin : ∀ {s2 : Sto} {t1 : TE} {D : Ends}, D.rt = Q → s2 = st → Ev K t1 (rho0 N__law_same [.d (wr ds), .d (wr ds)]) s2 (.d (.bool (PyData.eqv (.int (ds.length : Nat)) (.int (ds.length : Nat))))) s2 →
          W K M H [] (tRet (tAndV t1 (tCB (rAll K) (tCons (tLc (RZ.iZipA K (tCons (tVar 0) (tCons (tVar 1) tNil))) (gTup K 2 (gCons (gName 2) (gCons (gName 3) gNil))) tYes (tCall (spF K (R_same n)) [] E0 (tCons (tVar 2) (tCons (tVar 3) tNil))) [2, 3]) tNil))) D) (rho0 N__law_same [.d (wr ds), .d (wr ds)]) s2 := fun {s2 t1 D} hD hs h1 => by
        subst hs
        have e1 : PyData.eqv (.int (ds.length : Nat)) (.int (ds.length : Nat)) = true := by simp [PyData.eqv]
        rw [e1] at h1
        refine w_ret (x := .d (.bool true)) (s1 := s2) ?_ (by rw [hD]; exact q')
        refine (ev_andV (b := true) (c := (ds.map fun _ => true).all id) h1 (fun _ => ?_) (fun c => by cases c)).is (by rw [all_true]; rfl)
        refine ev_cb (eva_cons (ev_new main) eva_nil) o_all
      rcases hw with hw | hw
      · subst hw
        walk_at "w"
        · intro c
          iterate 2 (walk_at "w")
          · intro c2
            simp [PyData.eqv] at c2
          · intro c2
            walk_at "w"
            with_reducible apply fin
            · rfl
            · rfl
            · walk_at "ev"
        · intro c
          simp [isL] at c
      · subst hw
        walk_at "w"
        · intro c
          iterate 2 (walk_at "w")
          · intro c2
            simp [PyData.eqv] at c2
          · intro c2
            walk_at "w"
            with_reducible apply fin
            · rfl
            · rfl
            · walk_at "ev"
        · intro c
          simp [isT] at c
    · have e1 : isL d = false := by
        cases d <;> first | rfl | exact absurd ⟨_, _, .inl rfl, rfl⟩ hk
      have e2 : isT d = false := by
        cases d <;> first | rfl | exact absurd ⟨_, _, .inr rfl, rfl⟩ hk
      have hsd : SeqAt.shaped d = true := shaped_of h (by omega)
      have e3 := eqv_self d h
      walk_at "w"
      · intro c
        rw [e1, e2] at c
        cases c
      · intro c
        iterate 3 (walk_at "w")
        · intro c2
          simp [PyData.eqv] at c2
        · intro c2
          iterate 2 (walk_at "w")
          exact q'.is (by rw [e3])
end
end K05
namespace K05
open PySem L2 Pw Km
theorem eqv_ii {a b : Int} : PyData.eqv (.int a) (.int b) = decide (a = b) := by
  rw [Bool.eq_iff_iff]
  simp [PyData.eqv]
theorem fm_nat {a b : Nat} : ((a : Int).fmod (b : Int)) = ((a % b : Nat) : Int) := by
  rw [Int.fmod_eq_emod_of_nonneg _ (Int.natCast_nonneg b)]
  rfl
theorem fd_nat {a b : Nat} : ((a : Int).fdiv (b : Int)) = ((a / b : Nat) : Int) := by
  rw [Int.fdiv_eq_ediv_of_nonneg _ (Int.natCast_nonneg b)]
  rfl
theorem smn {n : Nat} {a : Nat} (b : Nat) (h : a ≤ b) (e : b < 2 ^ n := by decide) : Sm n (a : Int) := .of b (by omega) e
section
local macro_rules | `(tactic| walk_at "sd") => `(tactic| first | rfl | assumption | exact Nat.le_of_ble_eq_true rfl | decide | omega | (walk_at "sd2"))
local macro_rules | `(tactic| walk_at "sd2") => `(tactic| first | exact cm_sm (by assumption) (by assumption) | exact cf_sm (by assumption) (by assumption) | ((with_reducible apply gs); (walk_at "sd")) | exact cm_fm7 | exact cm_if | exact cm_l (by omega) (by omega) | exact cm_r (by omega) (by omega) | exact cf_c (by omega) (by omega))
local macro_rules | `(tactic| walk_at "isi") => `(tactic| with_reducible first | exact kit_int | exact kit_bool | exact kit_tuple | exact kit_list | exact kit_str)
local macro_rules | `(tactic| walk_at "und") => `(tactic| with_reducible repeat (first | exact Und.nil | apply Und.cons))
local macro_rules | `(tactic| walk_at "op") => `(tactic| (first
  | with_reducible exact o_add | with_reducible exact o_minus | with_reducible exact o_lt | with_reducible exact o_gt | with_reducible exact o_le | with_reducible exact o_ge | with_reducible exact o_neg
  | with_reducible exact o_isN | with_reducible exact o_isntN | with_reducible exact o_isB | with_reducible exact o_isntB | with_reducible exact o_neS | with_reducible exact o_eqS
  | with_reducible exact o_abs | with_reducible exact o_intB | with_reducible exact o_min2 | with_reducible exact o_max2 | with_reducible exact o_lenL | with_reducible exact o_lenT | with_reducible exact o_lenC | with_reducible exact o_gcd
  | with_reducible apply o_ixT | with_reducible apply o_ixL | with_reducible apply o_ixM | with_reducible apply o_ixS | with_reducible apply o_lenM
  | with_reducible apply o_mul | with_reducible apply o_fdiv | with_reducible apply o_mod | with_reducible apply o_pow | with_reducible apply o_eq | with_reducible apply o_ne | with_reducible apply o_catT | with_reducible apply o_repr | with_reducible apply o_all) <;> walk_at "sd")
local macro_rules | `(tactic| walk_at "opn") => `(tactic| (first
  | with_reducible apply o_cat | with_reducible apply o_repI | with_reducible exact o_listT | with_reducible exact o_listL) <;> walk_at "sd")
local macro_rules | `(tactic| walk_at "ea") => `(tactic| first
  | with_reducible exact eva_nil
  | ((with_reducible apply eva_cons); (walk_at "ev"); (walk_at "ea")))
local macro_rules | `(tactic| walk_at "call") => `(tactic| fail)
local macro_rules | `(tactic| walk_at "evn") => `(tactic| first
  | ((with_reducible apply evn_lstU); (walk_at "ea"); (walk_at "und"); (walk_at "sd"))
  | ((with_reducible apply evn_op); (walk_at "ev"); (walk_at "ev"); (walk_at "opn"))
  | ((with_reducible apply evn_cb); (walk_at "ea"); (walk_at "opn"))
  | ((with_reducible apply evn_call); (walk_at "ea"); (walk_at "call")))
local macro_rules | `(tactic| walk_at "ev") => `(tactic| first
  | with_reducible exact ev_int | with_reducible exact ev_bl | with_reducible exact ev_non | with_reducible exact ev_str
  | ((with_reducible apply ev_var); rfl)
  | ((with_reducible apply ev_op); (walk_at "ev"); (walk_at "ev"); (walk_at "op"))
  | ((with_reducible apply ev_un); (walk_at "ev"); (walk_at "op"))
  | ((with_reducible apply ev_call); (walk_at "ea"); (walk_at "call"))
  | ((with_reducible apply ev_callD); (walk_at "ea"); (intro _ _; exact rxs_1); (walk_at "call"))
  | ((with_reducible apply ev_callK); (walk_at "ea"); rfl; (intro _ _ _ hh; first | exact rxs_swap2 hh | exact rxs_same1 hh); (walk_at "call"))
  | ((with_reducible apply ev_isi); (walk_at "ev"); (walk_at "isi"))
  | ((with_reducible apply ev_isi2); (walk_at "ev"); (walk_at "isi"); (walk_at "isi"))
  | ((with_reducible apply ev_cb); (walk_at "ea"); (walk_at "op"))
  | ((with_reducible apply ev_tupU); (walk_at "ea"); (walk_at "und"); (walk_at "sd"))
  | ((with_reducible apply ev_new); (walk_at "evn"))
  | ((with_reducible apply ev_slT); (walk_at "ev"); (walk_at "eo"); (walk_at "eo"))
  | ((with_reducible apply ev_andV); (walk_at "ev"); (intro _; walk_at "ev"); (intro _; rfl))
  | ((with_reducible apply ev_orV); (walk_at "ev"); (intro _; walk_at "ev"); (intro _; rfl))
  | ((with_reducible apply ev_notV); (walk_at "ev")))
local macro_rules | `(tactic| walk_at "eo") => `(tactic| first
  | with_reducible exact eo_none
  | ((with_reducible apply eo_some); (walk_at "ev")))
local macro_rules | `(tactic| walk_at "et") => `(tactic| first
  | ((with_reducible apply et_test); (walk_at "ev"))
  | ((with_reducible apply et_B); (walk_at "ev"))
  | ((with_reducible apply et_not); (walk_at "et"))
  | ((with_reducible apply et_and); (walk_at "et"); (intro _; walk_at "et"); (intro _; rfl))
  | ((with_reducible apply et_or); (walk_at "et"); (intro _; walk_at "et"); (intro _; rfl)))
local macro_rules | `(tactic| walk_at "w") => `(tactic| first
  | (with_reducible apply w_seq)
  | (with_reducible apply w_next)
  | ((with_reducible apply w_asg); (walk_at "ev"))
  | ((with_reducible apply w_ret); (walk_at "ev"))
  | ((with_reducible apply w_drop); (walk_at "ev"))
  | ((with_reducible apply w_par); (walk_at "ea"))
  | ((with_reducible apply w_tup2); (walk_at "ev"))
  | ((with_reducible apply w_tup3); (walk_at "ev"))
  | ((with_reducible apply w_setI); (walk_at "ev"); (walk_at "ev"); (walk_at "ev"); (walk_at "sd"); (walk_at "sd"))
  | ((with_reducible apply w_if); (walk_at "et")))

variable {P : Program} {w : World} {K : Pw.Fg} {mg : Str → Option Value} {base : Heap} {f : Addr} {fd : FuncData} {ζ : ZA}
inductive R_parted : Gr
  | z {s} : R_parted [.d (.int 0)] s (.d (q2 0 1)) s
  | mk {m a u : Nat} {s} (h : Prt m a u) (hm : m ≤ 1000000) : R_parted [.d (.int (m : Int))] s (.d (q2 a u)) s
/-- the loop's state: side a, under u, step t -/
structure Pst (m a u t : Nat) : Prop where
  eq : a * a * u = m
  a1 : 1 ≤ a
  u1 : 1 ≤ u
  t2 : 2 ≤ t
  no : ∀ r, 2 ≤ r → r < t → ¬ (r * r ∣ u)
theorem Pst.um {m a u t : Nat} (h : Pst m a u t) : u ≤ m := by
  rw [← h.eq]
  exact Nat.le_mul_of_pos_left _ (Nat.mul_pos h.a1 h.a1)
theorem Pst.am {m a u t : Nat} (h : Pst m a u t) : a ≤ m := by
  rw [← h.eq, Nat.mul_assoc]
  exact Nat.le_mul_of_pos_right _ (Nat.mul_pos h.a1 h.u1)
theorem Pst.part {m a u t : Nat} (h : Pst m a u t) (hd : u % (t * t) = 0) : Pst m (a * t) (u / (t * t)) t ∧ u / (t * t) < u := by
  have tt : 4 ≤ t * t := Nat.mul_le_mul h.t2 h.t2
  obtain ⟨k, hk⟩ := Nat.dvd_of_mod_eq_zero hd
  have e : u / (t * t) = k := by rw [hk, Nat.mul_div_cancel_left _ (by omega)]
  have k1 : 1 ≤ k := by
    rcases Nat.eq_zero_or_pos k with z | z
    · subst z
      have := h.u1
      simp at hk
      omega
    · exact z
  rw [e]
  refine ⟨⟨?_, Nat.mul_pos h.a1 (by have := h.t2; omega), k1, h.t2, fun r r2 rt rd => h.no r r2 rt (by rw [hk]; exact Nat.dvd_trans rd (Nat.dvd_mul_left _ _))⟩, ?_⟩
  · rw [← h.eq, hk]
    simp only [Nat.mul_assoc, Nat.mul_comm, Nat.mul_left_comm]
  · have : 4 * k ≤ t * t * k := Nat.mul_le_mul_right k tt
    omega
theorem Pst.next {m a u t : Nat} (h : Pst m a u t) (hd : u % (t * t) ≠ 0) : Pst m a u (t + 1) := ⟨h.eq, h.a1, h.u1, by have := h.t2; omega, fun r r2 rt rd => by
  rcases Nat.lt_or_ge r t with c | c
  · exact h.no r r2 c rd
  · have e : r = t := by omega
    subst e
    exact hd (Nat.mod_eq_zero_of_dvd rd)⟩
theorem Pst.done {m a u t : Nat} (h : Pst m a u t) (hd : u < t * t) : Prt m a u := ⟨h.eq, h.a1, h.u1, fun r r2 rd => by
  rcases Nat.lt_or_ge r t with c | c
  · exact h.no r r2 c rd
  · have := Nat.le_of_dvd h.u1 rd
    have := Nat.mul_le_mul c c
    omega⟩
theorem t_le {t u : Nat} (h : t * t ≤ u) (hu : u ≤ 1000000) : t ≤ 1000 := by
  rcases Nat.lt_or_ge 1000 t with q | q
  · have := Nat.mul_le_mul (show 1001 ≤ t from q) (show 1001 ≤ t from q)
    omega
  · exact q
theorem ok_parted (Z : Zx K mg ζ) (G : Fun K "_parted" "_parted" s__parted f fd) : FnOk P w K mg base CX0 1 f fd ["many"] (spF K R_parted) := by
  refine G.ok sc__parted (spF_len fun xs s x s' h => by cases h <;> rfl) (fun cdv A outer s H vs Q E hr ⟨M, xs, st, x, st', h, So, rx, q⟩ => ?_)
  refine ⟨_, (pss_cons (ps_if (pt_cmpR (opk_eq (K := K) hr.units) (pv 0) (pe_int) (nomark _)) (pss_one (ps_ret (pe_tup (pa_cons (pe_int) (pa_cons (pe_int) pa_nil))))) pss_nil)
      (pss_cons (ps_set (i := 1) sc__parted.nd rfl (.inl rfl) (pe_int))
      (pss_cons (ps_set (i := 2) sc__parted.nd rfl (.inl rfl) (pv 0))
      (pss_cons (ps_set (i := 3) sc__parted.nd rfl (.inl rfl) (pe_int))
      (pss_cons (ps_while PassesOwn.never (pt_cmpR op_leA (pe_op op_times (pv 3) (pv 3)) (pv 2) (nomark _)) (pss_cons (ps_while PassesOwn.never (pt_cmpR (opk_eq (K := K) hr.units) (pe_op op_modA (pv 2) (pe_op op_times (pv 3) (pv 3))) (pe_int) (nomark _)) (pss_cons (ps_set (i := 2) sc__parted.nd rfl (.inl rfl) (pe_op op_fdivA (pv 2) (pe_op op_times (pv 3) (pv 3))))
      (pss_one (ps_set (i := 1) sc__parted.nd rfl (.inl rfl) (pe_op op_times (pv 1) (pv 3))))))
      (pss_one (ps_aug (i := 3) sc__parted.nd rfl (.inl rfl) (pe_int) iop_addA))))
      (pss_one (ps_ret (pe_tup (pa_cons (pv 1) (pa_cons (pv 2) pa_nil)))))))))), ?_⟩
  cases h with
  | z =>
    refine w_run So rx ?_
    try simp only [nox_K, cx_K, List.map_cons, List.map_nil]
    have q' := okr_0 q So.len
    iterate 2 (walk_at "w")
    · intro _
      walk_at "w"
      exact q'
    · intro c
      rw [eqv_ii] at c
      cases c
  | @mk m a u _ h hm =>
    refine w_run So rx ?_
    try simp only [nox_K, cx_K, List.map_cons, List.map_nil]
    have q' := okr_0 q So.len
    have m1 : 1 ≤ m := by rw [← h.eq]; exact Nat.mul_pos (Nat.mul_pos h.s1 h.s1) h.u1
    iterate 2 (walk_at "w")
    · intro c
      rw [eqv_ii] at c
      have := of_decide_eq_true c
      omega
    · intro _
      iterate 8 (walk_at "w")
      dsimp only
      refine w_while (fun k ρ s => s = st ∧ ∃ a u t : Nat, ρ = [some (.d (.int (m : Int))), some (.d (.int (a : Int))), some (.d (.int (u : Int))), some (.d (.int (t : Int)))] ∧ Pst m a u t ∧ t ≤ 1001 ∧ k = 1001 - t) ⟨999, rfl, 1, m, 2, rfl, ⟨by simp, Nat.le_refl _, m1, Nat.le_refl _, fun r r2 rt => by omega⟩, by omega, rfl⟩ ?_
      rintro k ρ s2 ⟨rfl, a', u', t, rfl, hp, tl, rfl⟩
      have z1 : Sm 20 (t : Int) := smn 1001 tl
      refine ⟨decide ((t : Int) * t ≤ u'), s2, ?_, ?_, ?_⟩
      · walk_at "et"
      · intro c N hN
        have tu : t * t ≤ u' := by
          have := of_decide_eq_true c
          omega
        have tl2 : t ≤ 1000 := t_le tu (Nat.le_trans hp.um hm)
        have tt : (t : Int) * t ≠ 0 := by
          have := hp.t2
          exact Int.mul_ne_zero (by omega) (by omega)
        have z2 := z1.mul z1
        walk_at "w"
        dsimp only
        refine w_while (fun k ρ s => s = s2 ∧ ∃ a u : Nat, ρ = [some (.d (.int (m : Int))), some (.d (.int (a : Int))), some (.d (.int (u : Int))), some (.d (.int (t : Int)))] ∧ Pst m a u t ∧ k = u) ⟨u', rfl, a', u', rfl, hp, rfl⟩ ?_
        rintro u2 ρ s3 ⟨rfl, a2, _, rfl, hp2, rfl⟩
        have z3 : Sm 20 (u2 : Int) := smn 1000000 (Nat.le_trans hp2.um hm)
        have z4 : Sm 20 (a2 : Int) := smn 1000000 (Nat.le_trans hp2.am hm)
        refine ⟨decide (u2 % (t * t) = 0), s3, ?_, ?_, ?_⟩
        · refine EvT.is (b := PyData.eqv (.int ((u2 : Int).fmod ((t : Int) * t))) (.int 0)) ?_ (by
            rw [eqv_ii, ← Int.natCast_mul, fm_nat]
            exact decide_eq_decide.mpr (by omega))
          walk_at "et"
        · intro c N2 hN2
          obtain ⟨p3, lt⟩ := hp2.part (of_decide_eq_true c)
          iterate 3 (walk_at "w")
          refine hN2 _ _ _ lt ⟨rfl, _, _, ?_, p3, rfl⟩
          rw [← Int.natCast_mul, fd_nat, ← Int.natCast_mul]
          rfl
        · intro c
          have p3 := hp2.next (of_decide_eq_false c)
          dsimp only
          refine w_aug (x := .d (.int (t : Int))) rfl ev_int o_iadd ?_
          refine hN (1001 - (t + 1)) _ _ (by omega) ⟨rfl, a2, u2, t + 1, ?_, p3, by omega, rfl⟩
          rfl
      · intro c
        have tu : u' < t * t := by
          have := of_decide_eq_false c
          omega
        obtain ⟨e1, e2⟩ := (hp.done tu).uniq h
        subst e1 e2
        walk_at "w"
        exact q'
end
end K05
namespace Km
open PySem L2 Pw
theorem log_sm {n : Nat} {i : Int} (h : Sm n i) (hn : 0 < n) : i.natAbs.log2 < n := PySem.Flt.log2_lt_of hn h.lt
theorem shown_int {i : Int} (h : Sm 1000 i) : (PyData.shown (.int i)).length ≤ 1001 := by
  have e := int_text_length_le (k := 1000) (by decide) (log_sm h (by decide))
  show (Str.ofString (toString i)).length ≤ 1001
  rw [ofString_length]
  omega
/-- a thing within a thing -/
structure Lf (x : PyData) : Prop where
  sh : PyData.showable x = true
  nd : PyData.hasDict x = false
  dp : x.depth ≤ 1
  ls : x.leavesShort 1002 = true
  wt : x.weight ≤ 1000
  ly : x.canLay0 = true
  sm : ∀ a, x = .int a → Sm 1000 a
theorem lf_int {i : Int} (h : Sm 1000 i) : Lf (.int i) := by
  have hl := log_sm h (by decide)
  refine ⟨decide_eq_true (by omega), rfl, Nat.le_of_ble_eq_true rfl, ?_, ?_, rfl, fun a e => by cases e; exact h⟩
  · show decide ((PyData.shown (.int i)).length ≤ 1002) = true
    exact decide_eq_true (Nat.le_trans (shown_int h) (by decide))
  · show (if i == 0 then 0 else i.natAbs.log2 + 1) ≤ 1000
    split <;> omega
theorem lf_bool {b : Bool} : Lf (.bool b) := ⟨rfl, rfl, Nat.le_of_ble_eq_true rfl, rfl, Nat.le_of_ble_eq_true rfl, rfl, fun a e => by cases e⟩
theorem lf_none : Lf .none := ⟨rfl, rfl, Nat.le_of_ble_eq_true rfl, rfl, Nat.le_of_ble_eq_true rfl, rfl, fun a e => by cases e⟩
theorem lf_s1 : Lf (.str "1") := ⟨rfl, rfl, Nat.le_of_ble_eq_true rfl, by decide +kernel, by decide +kernel, by decide +kernel, fun a e => by cases e⟩
theorem lf_t1 : Lf (.tuple [.int 1]) := ⟨by decide +kernel, by decide +kernel, by decide +kernel, by decide +kernel, by decide +kernel, by decide +kernel, fun a e => by cases e⟩
theorem lf_l1 : Lf (.list [.int 1]) := ⟨by decide +kernel, by decide +kernel, by decide +kernel, by decide +kernel, by decide +kernel, by decide +kernel, fun a e => by cases e⟩
/-- a thing -/
structure Th (d : PyData) : Prop where
  sh : PyData.showable d = true
  nd : PyData.hasDict d = false
  dp : d.depth ≤ 60
  ln : d.shown.length ≤ 16000000
  sm : ∀ a b, d = .tuple [.int a, .int b] → Sm 4000 a ∧ Sm 4000 b
theorem th_mk {d : PyData} (sh : PyData.showable d = true) (nd : PyData.hasDict d = false) (dp : d.depth ≤ 60) (ls : d.leavesShort 1002 = true) (wt : d.weight ≤ 10000) (sm : ∀ a b, d = .tuple [.int a, .int b] → Sm 4000 a ∧ Sm 4000 b) : Th d :=
  ⟨sh, nd, dp, by
    have h := PyData.shown_le 1002 (by decide) d ls
    have h2 : (1002 + 2) * d.weight ≤ 1004 * 10000 := Nat.mul_le_mul (by decide) wt
    omega, sm⟩
theorem th_lf {x : PyData} (h : Lf x) (hn : ∀ ds, x ≠ .tuple ds) : Th x := th_mk h.sh h.nd (Nat.le_trans h.dp (by decide)) h.ls (Nat.le_trans h.wt (by decide)) fun a b e => absurd e (hn _)
theorem th_all {ds : List PyData} (h : ∀ x ∈ ds, Lf x) (hl : ds.length ≤ 5) : PyData.showableAll ds = true ∧ PyData.hasDictAll ds = false ∧ PyData.depthAll ds ≤ 1 ∧ PyData.leavesShortAll 1002 ds = true ∧ PyData.weightAll ds ≤ 1001 * ds.length := by
  induction ds with
  | nil => exact ⟨rfl, rfl, Nat.le_of_ble_eq_true rfl, rfl, Nat.le_of_ble_eq_true rfl⟩
  | cons x ds ih =>
    obtain ⟨h1, h2, h3, h4, h5⟩ := ih (fun y hy => h y (List.mem_cons_of_mem _ hy)) (by simp at hl; omega)
    have hx := h x (List.mem_cons_self ..)
    refine ⟨?_, ?_, ?_, ?_, ?_⟩
    · simp only [PyData.showableAll, hx.sh, h1, Bool.and_self]
    · simp only [PyData.hasDictAll, hx.nd, h2, Bool.or_self]
    · simp only [PyData.depthAll]
      exact Nat.max_le.mpr ⟨hx.dp, h3⟩
    · simp only [PyData.leavesShortAll, hx.ls, h4, Bool.and_self]
    · have := hx.wt
      simp only [PyData.weightAll, List.length_cons]
      omega
theorem th_tup {ds : List PyData} (h : ∀ x ∈ ds, Lf x) (hl : ds.length ≤ 5) : Th (.tuple ds) := by
  obtain ⟨h1, h2, h3, h4, h5⟩ := th_all h hl
  refine th_mk (by simp only [PyData.showable, h1]) (by simp only [PyData.hasDict, h2]) (by simp only [PyData.depth]; omega) (by simp only [PyData.leavesShort, h4]) (by simp only [PyData.weight]; omega) fun a b e => ?_
  cases e
  exact ⟨((h (.int a) (by simp)).sm a rfl).mono, ((h (.int b) (by simp)).sm b rfl).mono⟩
theorem th_lst {ds : List PyData} (h : ∀ x ∈ ds, Lf x) (hl : ds.length ≤ 5) : Th (.list ds) := by
  obtain ⟨h1, h2, h3, h4, h5⟩ := th_all h hl
  exact th_mk (by simp only [PyData.showable, h1]) (by simp only [PyData.hasDict, h2]) (by simp only [PyData.depth]; omega) (by simp only [PyData.leavesShort, h4]) (by simp only [PyData.weight]; omega) fun a b e => by cases e
theorem th_s : Th (.str "1/2") := th_mk rfl rfl (Nat.le_of_ble_eq_true rfl) (by decide +kernel) (by decide +kernel) fun a b e => by cases e
end Km
namespace Km
open PySem L2 Pw
theorem lw_one {u : Int} : lwN u 1 = u ∧ lwD u 1 = 1 := (lw_self (u := u) (v := 1) (by decide)).mpr (by
  show Nat.gcd u.natAbs 1 = 1
  exact Nat.gcd_one_right _)
/-- what comes of a draw from a list of so many -/
theorem pick {ds : List PyData} {b : Bx} (h : 0 < ds.length) : ∃ d, ds[(tkR b (ds.length : Nat)).toNat]? = some d ∧ d ∈ ds := by
  have hr := tk_r (b := b) (n := (ds.length : Nat)) (by omega)
  have hl : (tkR b (ds.length : Nat)).toNat < ds.length := by omega
  exact ⟨_, List.getElem?_eq_getElem hl, List.getElem_mem hl⟩
end Km
namespace K05
open PySem L2 Pw Km
theorem lw1 {u : Int} : lw u 1 = q2 u 1 := by
  show PyData.tuple [.int (lwN u 1), .int (lwD u 1)] = PyData.tuple [.int u, .int 1]
  rw [lw_one.1, lw_one.2]
theorem isF_ok {a b : Int} (h : isF (q2 a b) = true) : 0 < b ∧ lwN a b = a ∧ lwD a b = b := by
  have h' : (decide (0 < b) && (((Nat.gcd a.natAbs b.natAbs : Nat) : Int) == 1)) = true := h
  rw [Bool.and_eq_true, beq_iff_eq] at h'
  have hb := of_decide_eq_true h'.1
  have := (lw_self (u := a) hb).mpr (by have := h'.2; omega)
  exact ⟨hb, this⟩
theorem lw_isF {a b : Int} (h : isF (q2 a b) = true) : lw a b = q2 a b := by
  obtain ⟨_, h1, h2⟩ := isF_ok h
  show PyData.tuple [.int (lwN a b), .int (lwD a b)] = PyData.tuple [.int a, .int b]
  rw [h1, h2]
theorem lwz {v : Int} (h : v ≠ 0) : lwN 0 v = 0 ∧ lwD 0 v = 1 := by
  unfold lwN lwD
  have : ((v.natAbs : Nat) : Int) ≠ 0 := by omega
  constructor
  · rw [Int.mul_zero]
    exact Int.zero_fdiv _
  · rw [Int.natAbs_zero, Nat.gcd_zero_left]
    exact Int.fdiv_self this
theorem lwN_nz {u v : Int} (hu : u ≠ 0) (h : v ≠ 0) : lwN u v ≠ 0 := fun e => by
  have g := gcd_pos (u := u) h
  unfold lwN at e
  rw [Int.fdiv_eq_ediv_of_nonneg _ (by omega)] at e
  have d : ((Nat.gcd u.natAbs v.natAbs : Nat) : Int) ∣ sg v * u := Int.ofNat_dvd_left.mpr (by
    rw [Int.natAbs_mul, sg_abs, Nat.one_mul]
    exact Nat.gcd_dvd_left _ _)
  have := Int.ediv_mul_cancel d
  rw [e, Int.zero_mul] at this
  have s0 := sg_abs v
  rcases Int.mul_eq_zero.mp this.symm with z | z
  · rw [z] at s0
    cases s0
  · exact hu z
/-- a lowered fraction, of a size -/
structure Lf (n : Nat) (a b : Int) : Prop where
  sa : Sm n a
  sb : Sm n b
  lo : isF (q2 a b) = true
theorem Lf.pos {n : Nat} {a b : Int} (h : Lf n a b) : 0 < b := (isF_ok h.lo).1
theorem Lf.lw {u v : Int} {n m k : Nat} (h : v ≠ 0) (hu : Sm n u) (hv : Sm m v) (hn : n ≤ k := by decide) (hm : m ≤ k := by decide) : Lf k (lwN u v) (lwD u v) := ⟨(hu.mono hn).le (lwN_le h), (hv.mono hm).le (lwD_le h), isF_lw h⟩
abbrev t3 (x y z : PyData) : PyData := .tuple [x, y, z]
abbrev n0 : PyData := q2 0 1
abbrev shN (b1 b2 : Int) (a : Nat) : Int := lwN (b1 * a) (b2 * 1)
abbrev shD (b1 b2 : Int) (a : Nat) : Int := lwD (b1 * a) (b2 * 1)
/-- what's due of a and b times the root of m -/
inductive Due (a1 a2 b1 b2 : Int) : Nat → PyData → Prop
  | z {m} (h : m = 0 ∨ b1 = 0) (hm : m ≤ 1000000) : Due a1 a2 b1 b2 m (t3 (q2 a1 a2) n0 (.int 1))
  | one {m a} (h : Prt m a 1) (hb : b1 ≠ 0) (hm : m ≤ 1000000) : Due a1 a2 b1 b2 m (t3 (lw (a1 * shD b1 b2 a + shN b1 b2 a * a2) (a2 * shD b1 b2 a)) n0 (.int 1))
  | two {m a u} (h : Prt m a u) (hb : b1 ≠ 0) (hu : u ≠ 1) (hm : m ≤ 1000000) : Due a1 a2 b1 b2 m (t3 (q2 a1 a2) (lw (b1 * a) (b2 * 1)) (.int (u : Int)))
theorem Prt.bds {m a u : Nat} (h : Prt m a u) (hm : m ≤ 1000000) : a ≤ 1000000 ∧ u ≤ 1000000 := by
  constructor
  · refine Nat.le_trans ?_ hm
    rw [← h.eq, Nat.mul_assoc]
    exact Nat.le_mul_of_pos_right _ (Nat.mul_pos h.s1 h.u1)
  · refine Nat.le_trans ?_ hm
    rw [← h.eq]
    exact Nat.le_mul_of_pos_left _ (Nat.mul_pos h.s1 h.s1)
inductive R_rooted : Gr
  | mk {a1 a2 b1 b2 : Int} {m : Nat} {d s} (ha : Lf 300 a1 a2) (hb : Lf 300 b1 b2) (h : Due a1 a2 b1 b2 m d) : R_rooted [.d (q2 a1 a2), .d (q2 b1 b2), .d (.int (m : Int))] s (.d d) s
section
local macro_rules | `(tactic| walk_at "sd") => `(tactic| first | rfl | assumption | exact Nat.le_of_ble_eq_true rfl | decide | omega | (walk_at "sd2"))
local macro_rules | `(tactic| walk_at "sd2") => `(tactic| first | exact cm_sm (by assumption) (by assumption) | exact cf_sm (by assumption) (by assumption) | ((with_reducible apply gs); (walk_at "sd")) | exact cm_fm7 | exact cm_if | exact cm_l (by omega) (by omega) | exact cm_r (by omega) (by omega) | exact cf_c (by omega) (by omega))
local macro_rules | `(tactic| walk_at "isi") => `(tactic| with_reducible first | exact kit_int | exact kit_bool | exact kit_tuple | exact kit_list | exact kit_str)
local macro_rules | `(tactic| walk_at "und") => `(tactic| with_reducible repeat (first | exact Und.nil | apply Und.cons))
local macro_rules | `(tactic| walk_at "op") => `(tactic| (first
  | with_reducible exact o_add | with_reducible exact o_minus | with_reducible exact o_lt | with_reducible exact o_gt | with_reducible exact o_le | with_reducible exact o_ge | with_reducible exact o_neg
  | with_reducible exact o_isN | with_reducible exact o_isntN | with_reducible exact o_isB | with_reducible exact o_isntB | with_reducible exact o_neS | with_reducible exact o_eqS
  | with_reducible exact o_abs | with_reducible exact o_intB | with_reducible exact o_min2 | with_reducible exact o_max2 | with_reducible exact o_lenL | with_reducible exact o_lenT | with_reducible exact o_lenC | with_reducible exact o_gcd
  | with_reducible apply o_ixT | with_reducible apply o_ixL | with_reducible apply o_ixM | with_reducible apply o_ixS | with_reducible apply o_lenM
  | with_reducible apply o_mul | with_reducible apply o_fdiv | with_reducible apply o_mod | with_reducible apply o_pow | with_reducible apply o_eq | with_reducible apply o_ne | with_reducible apply o_catT | with_reducible apply o_repr | with_reducible apply o_all) <;> walk_at "sd")
local macro_rules | `(tactic| walk_at "opn") => `(tactic| (first
  | with_reducible apply o_cat | with_reducible apply o_repI | with_reducible exact o_listT | with_reducible exact o_listL) <;> walk_at "sd")
local macro_rules | `(tactic| walk_at "ea") => `(tactic| first
  | with_reducible exact eva_nil
  | ((with_reducible apply eva_cons); (walk_at "ev"); (walk_at "ea")))
local macro_rules | `(tactic| walk_at "call") => `(tactic| fail)
local macro_rules | `(tactic| walk_at "evn") => `(tactic| first
  | ((with_reducible apply evn_lstU); (walk_at "ea"); (walk_at "und"); (walk_at "sd"))
  | ((with_reducible apply evn_op); (walk_at "ev"); (walk_at "ev"); (walk_at "opn"))
  | ((with_reducible apply evn_cb); (walk_at "ea"); (walk_at "opn"))
  | ((with_reducible apply evn_call); (walk_at "ea"); (walk_at "call")))
local macro_rules | `(tactic| walk_at "ev") => `(tactic| first
  | with_reducible exact ev_int | with_reducible exact ev_bl | with_reducible exact ev_non | with_reducible exact ev_str
  | ((with_reducible apply ev_var); rfl)
  | ((with_reducible apply ev_op); (walk_at "ev"); (walk_at "ev"); (walk_at "op"))
  | ((with_reducible apply ev_un); (walk_at "ev"); (walk_at "op"))
  | ((with_reducible apply ev_call); (walk_at "ea"); (walk_at "call"))
  | ((with_reducible apply ev_callD); (walk_at "ea"); (intro _ _; exact rxs_1); (walk_at "call"))
  | ((with_reducible apply ev_callK); (walk_at "ea"); rfl; (intro _ _ _ hh; first | exact rxs_swap2 hh | exact rxs_same1 hh); (walk_at "call"))
  | ((with_reducible apply ev_isi); (walk_at "ev"); (walk_at "isi"))
  | ((with_reducible apply ev_isi2); (walk_at "ev"); (walk_at "isi"); (walk_at "isi"))
  | ((with_reducible apply ev_cb); (walk_at "ea"); (walk_at "op"))
  | ((with_reducible apply ev_tupU); (walk_at "ea"); (walk_at "und"); (walk_at "sd"))
  | ((with_reducible apply ev_new); (walk_at "evn"))
  | ((with_reducible apply ev_slT); (walk_at "ev"); (walk_at "eo"); (walk_at "eo"))
  | ((with_reducible apply ev_andV); (walk_at "ev"); (intro _; walk_at "ev"); (intro _; rfl))
  | ((with_reducible apply ev_orV); (walk_at "ev"); (intro _; walk_at "ev"); (intro _; rfl))
  | ((with_reducible apply ev_notV); (walk_at "ev")))
local macro_rules | `(tactic| walk_at "eo") => `(tactic| first
  | with_reducible exact eo_none
  | ((with_reducible apply eo_some); (walk_at "ev")))
local macro_rules | `(tactic| walk_at "et") => `(tactic| first
  | ((with_reducible apply et_test); (walk_at "ev"))
  | ((with_reducible apply et_B); (walk_at "ev"))
  | ((with_reducible apply et_not); (walk_at "et"))
  | ((with_reducible apply et_and); (walk_at "et"); (intro _; walk_at "et"); (intro _; rfl))
  | ((with_reducible apply et_or); (walk_at "et"); (intro _; walk_at "et"); (intro _; rfl)))
local macro_rules | `(tactic| walk_at "w") => `(tactic| first
  | (with_reducible apply w_seq)
  | (with_reducible apply w_next)
  | ((with_reducible apply w_asg); (walk_at "ev"))
  | ((with_reducible apply w_ret); (walk_at "ev"))
  | ((with_reducible apply w_drop); (walk_at "ev"))
  | ((with_reducible apply w_par); (walk_at "ea"))
  | ((with_reducible apply w_tup2); (walk_at "ev"))
  | ((with_reducible apply w_tup3); (walk_at "ev"))
  | ((with_reducible apply w_setI); (walk_at "ev"); (walk_at "ev"); (walk_at "ev"); (walk_at "sd"); (walk_at "sd"))
  | ((with_reducible apply w_if); (walk_at "et")))

variable {P : Program} {w : World} {K : Pw.Fg} {mg : Str → Option Value} {base : Heap} {f : Addr} {fd : FuncData} {ζ : ZA}
section
local macro_rules | `(tactic| walk_at "call") => `(tactic| first
  | exact fr_mk (by assumption) (by assumption) (by assumption)
  | exact R_plus.mk (by assumption) (by assumption) (by assumption) (by assumption) (by assumption) (by assumption)
  | exact R_times.mk (by assumption) (by assumption) (by assumption) (by assumption) (by assumption) (by assumption)
  | assumption)
local macro_rules | `(tactic| walk_at "ev") => `(tactic| with_reducible exact ev_tref (Zx.n_NOUGHT (by assumption)))
theorem ok_rooted (Z : Zx K mg ζ) (c__parted : Cb P w K mg base "_parted" 1 [] (spF K R_parted)) (c_times : Cb P w K mg base "times" 2 [] (spF K R_times)) (c_plus : Cb P w K mg base "plus" 2 [] (spF K R_plus)) (c_fracD1 : Cb P w K mg base "frac" 1 [.int 1] (spF K R_frac))
    (G : Fun K "rooted" "rooted" s_rooted f fd) : FnOk P w K mg base CX0 3 f fd ["a", "b", "many"] (spF K R_rooted) := by
  refine G.ok sc_rooted (spF_len fun xs s x s' h => by cases h; rfl) (fun cdv A outer s H vs Q E hr ⟨M, xs, st, x, st', h, So, rx, q⟩ => ?_)
  refine ⟨_, (pss_cons (ps_if (pt_cmpR op_gtA (pv 2) (pe_glob (v := .int 1000000) (by rfl) Z.g_ROOTS ⟨_, rfl⟩) (nomark _)) (pss_one ps_never) pss_nil)
      (pss_cons (ps_asg (pe_cb c__parted (hr.mono (by decide)) (by rfl) (pa_cons (pv 2) pa_nil)) (pgk_tup (K := K) 2 (by rfl) (pgs_cons (pg_name (i := 3) sc_rooted.nd rfl (Or.inl rfl)) (pgs_cons (pg_name (i := 4) sc_rooted.nd rfl (Or.inl rfl)) pgs_nil))))
      (pss_cons (ps_set (i := 5) sc_rooted.nd rfl (.inl rfl) (pe_cb c_times (hr.mono (by decide)) (by rfl) (pa_cons (pv 1) (pa_cons (pe_cb c_fracD1 (hr.mono (by decide)) (by rfl) (pa_cons (pv 3) pa_nil)) pa_nil))))
      (pss_cons (ps_if (pt_cmpR (opk_eq (K := K) hr.units) (pv 4) (pe_int) (nomark _)) (pss_one (ps_ret (pe_tup (pa_cons (pe_cb c_plus (hr.mono (by decide)) (by rfl) (pa_cons (pv 0) (pa_cons (pv 5) pa_nil))) (pa_cons (pe_glob (v := .ref ζ.TN) (by rfl) Z.g_NOUGHT rfl) (pa_cons (pe_int) pa_nil)))))) pss_nil)
      (pss_cons (ps_if (pt_cmpR (opk_eq (K := K) hr.units) (pv 5) (pe_glob (v := .ref ζ.TN) (by rfl) Z.g_NOUGHT rfl) (nomark _)) (pss_one (ps_ret (pe_tup (pa_cons (pv 0) (pa_cons (pe_glob (v := .ref ζ.TN) (by rfl) Z.g_NOUGHT rfl) (pa_cons (pe_int) pa_nil)))))) pss_nil)
      (pss_one (ps_ret (pe_tup (pa_cons (pv 0) (pa_cons (pv 5) (pa_cons (pv 4) pa_nil))))))))))), ?_⟩
  cases h with
  | @mk a1 a2 b1 b2 m d _ ha hb h =>
    refine w_run So rx ?_
    try simp only [nox_K, cx_K, List.map_cons, List.map_nil]
    have q' := okr_0 q So.len
    have ap := ha.pos
    have bp := hb.pos
    obtain ⟨a0, u0, RP, a6, u6, m6, d1, d2, d3⟩ : ∃ a0 u0 : Nat, R_parted [.d (.int (m : Int))] st (.d (q2 a0 u0)) st ∧ a0 ≤ 1000000 ∧ u0 ≤ 1000000 ∧ m ≤ 1000000 ∧
        (u0 = 1 → d = t3 (lw (a1 * shD b1 b2 a0 + shN b1 b2 a0 * a2) (a2 * shD b1 b2 a0)) n0 (.int 1)) ∧ (u0 ≠ 1 → PyData.eqv (lw (b1 * a0) (b2 * 1)) n0 = true → d = t3 (q2 a1 a2) n0 (.int 1)) ∧
        (u0 ≠ 1 → PyData.eqv (lw (b1 * a0) (b2 * 1)) n0 = false → d = t3 (q2 a1 a2) (lw (b1 * a0) (b2 * 1)) (.int (u0 : Int))) := by
      have pl0 : lw (a1 * 1 + 0 * a2) (a2 * 1) = q2 a1 a2 := by rw [Int.mul_one, Int.zero_mul, Int.add_zero, Int.mul_one]; exact lw_isF ha.lo
      have kk : b2 * 1 ≠ 0 := by omega
      cases h with
      | z h hm =>
        by_cases m0 : m = 0
        · subst m0
          have e := lwz kk
          refine ⟨0, 1, .z, by omega, by omega, hm, fun _ => ?_, fun z => absurd rfl z, fun z => absurd rfl z⟩
          show t3 (q2 a1 a2) n0 (.int 1) = t3 (lw (a1 * lwD (b1 * ((0 : Nat) : Int)) (b2 * 1) + lwN (b1 * ((0 : Nat) : Int)) (b2 * 1) * a2) (a2 * lwD (b1 * ((0 : Nat) : Int)) (b2 * 1))) n0 (.int 1)
          rw [show b1 * ((0 : Nat) : Int) = 0 from Int.mul_zero _, e.1, e.2, pl0]
        · have b0 : b1 = 0 := h.resolve_left m0
          subst b0
          obtain ⟨a, u, p⟩ := Prt.ex m m (Nat.le_refl _) (by omega)
          obtain ⟨p1, p2⟩ := Prt.bds p hm
          have e := lwz kk
          refine ⟨a, u, .mk p hm, p1, p2, hm, fun _ => ?_, fun _ _ => rfl, fun _ z => ?_⟩
          · show t3 (q2 a1 a2) n0 (.int 1) = t3 (lw (a1 * lwD (0 * (a : Int)) (b2 * 1) + lwN (0 * (a : Int)) (b2 * 1) * a2) (a2 * lwD (0 * (a : Int)) (b2 * 1))) n0 (.int 1)
            rw [Int.zero_mul, e.1, e.2, pl0]
          · rw [Int.zero_mul] at z
            have : lw 0 (b2 * 1) = n0 := by
              show PyData.tuple [.int (lwN 0 (b2 * 1)), .int (lwD 0 (b2 * 1))] = _
              rw [e.1, e.2]
            rw [this] at z
            cases z
      | @one a h hb0 hm =>
        obtain ⟨p1, p2⟩ := Prt.bds h hm
        exact ⟨a, 1, .mk h hm, p1, p2, hm, fun _ => rfl, fun z => absurd rfl z, fun z => absurd rfl z⟩
      | @two a u h hb0 hu hm =>
        obtain ⟨p1, p2⟩ := Prt.bds h hm
        refine ⟨a, u, .mk h hm, p1, p2, hm, fun z => absurd z hu, fun _ z => ?_, fun _ _ => rfl⟩
        have := lwN_nz (u := b1 * a) (v := b2 * 1) (Int.mul_ne_zero hb0 (by have := h.s1; omega)) kk
        have z' : ((lwN (b1 * a) (b2 * 1) == 0) && ((lwD (b1 * a) (b2 * 1) == 1) && true)) = true := z
        rw [Bool.and_eq_true, beq_iff_eq] at z'
        exact absurd z'.1 this
    have z1 : Sm 20 (a0 : Int) := smn 1000000 a6
    have z2 : Sm 1 (1 : Int) := .of 1 (by decide)
    have k1 : (1 : Int) ≠ 0 := by decide
    have zb1 : Sm 1000 b1 := hb.sa.mono
    have zb2 : Sm 1000 b2 := hb.sb.mono
    have za1 : Sm 1000 a1 := ha.sa.mono
    have za2 : Sm 1000 a2 := ha.sb.mono
    have kb : b2 ≠ 0 := by omega
    have ka : a2 ≠ 0 := by omega
    have e1 := lw_one (u := (a0 : Int))
    have y1 : Sm 1000 (lwN (a0 : Int) 1) := by rw [e1.1]; exact z1.mono
    have y2 : Sm 1000 (lwD (a0 : Int) 1) := by rw [e1.2]; exact z2.mono
    have y3 : lwD (a0 : Int) 1 ≠ 0 := by rw [e1.2]; exact k1
    have kk : b2 * 1 ≠ 0 := by omega
    have sh : Lf 400 (shN b1 b2 a0) (shD b1 b2 a0) := Lf.lw (n := 320) (m := 301) kk (hb.sa.mul z1) (hb.sb.mul z2)
    have sp := sh.pos
    have v1 : Sm 1000 (shN b1 b2 a0) := sh.sa.mono
    have v2 : Sm 1000 (shD b1 b2 a0) := sh.sb.mono
    have v3 : shD b1 b2 a0 ≠ 0 := by omega
    iterate 2 (walk_at "w")
    · intro c
      have := of_decide_eq_true c
      omega
    · intro _
      iterate 5 (walk_at "w")
      rw [e1.1, e1.2]
      walk_at "w"
      walk_at "w"
      · intro c
        rw [eqv_ii] at c
        have := of_decide_eq_true c
        rw [d1 (by omega)] at q'
        walk_at "w"
        exact q'
      · intro c
        rw [eqv_ii] at c
        have := of_decide_eq_false c
        have un : u0 ≠ 1 := by omega
        iterate 3 (walk_at "w")
        · intro c2
          rw [d2 un c2] at q'
          walk_at "w"
          exact q'
        · intro c2
          rw [d3 un c2] at q'
          iterate 2 (walk_at "w")
          exact q'
end
end
end K05
namespace K05
open PySem L2 Pw
open SX (S)
open Ks (ntx ftx numIn fracOr unm dig figs val)
theorem rg0 {i : Int} (h : 0 ≤ i) (h2 : i < 1000) : RgC i i 60 0 := by
  refine ⟨by decide, by decide, ?_, ?_⟩
  · have e : Builtin.Range.rangeSize i i 60 = 0 := by
      unfold Builtin.Range.rangeSize
      simp
    unfold Builtin.Range.small
    rw [e]
    simp [Builtin.Range.rangeFitsLong]
    omega
  · unfold Builtin.Range.rangeSize
    simp
section
variable {K : Fg} {ρ : En} {s s1 : Sto} {ta : TA} {g : TG} {tb : TS} {M0 : List Addr} {H0 : Hp} {F : Kp} {D : Ends} {i j c : Int}
theorem w_for30 (h : Eva K ta ρ s [.d (.int i), .d (.int j), .d (.int c)] s1) (hz : RgC i j c 0) (hd : W K M0 H0 F D.nx ρ s1) : W K M0 H0 F (tFor (iRng3 ta) g tb D) ρ s := fun M σ H R => by
  refine h M σ H R.so R.re _ fun vs H1 e S r => ?_
  cases r with
  | cons r1 r =>
    cases r with
    | cons r2 r =>
      cases r with
      | cons r3 r =>
        cases r
        cases r1; cases r2; cases r3
        refine ⟨i, j, c, 0, rfl, hz, ?_⟩
        refine for_rangeC (fun i σ H => D.nx σ H) (hd M σ H1 (R.step e S)) (fun i σ H hi _ => absurd hi (Nat.not_lt_zero _)) (fun σ H h => h)
end
/-- the whole root of a text of figures -/
theorem int_0 {l : List Nat} (h : dig l = true) (hl : l.length ≤ 600) : PySem.intText? (Str.ofString "0" ++ S l) = some ((val l : Nat) : Int) ∧ (Str.ofString "0" ++ S l).length ≤ 640 := by
  have e0 : Str.ofString "0" = S [48] := by decide +kernel
  obtain ⟨h1, h2⟩ := Ks.dig_all h
  rw [e0, SX.S_cat]
  constructor
  · rw [SX.int_S]
    · rfl
    · rw [List.all_eq_true]
      intro c hc
      rcases List.mem_append.mp hc with m | m
      · simp at m; subst m; rfl
      · have := h1 c m
        simp
        omega
    · simp
    · simp; omega
  · rw [SX.S_len]
    simp
    omega
def asc (l : List Nat) : Prop := l.all (· < 128) = true
theorem asc_app {a b : List Nat} : asc (a ++ b) ↔ asc a ∧ asc b := by unfold asc; rw [List.all_append, Bool.and_eq_true]
theorem asc_cons {c : Nat} {b : List Nat} : asc (c :: b) ↔ c < 128 ∧ asc b := by unfold asc; rw [List.all_cons, Bool.and_eq_true, decide_eq_true_eq]
theorem asc_num (n : Nat) : asc (TL.numL n) := by
  unfold asc
  rw [List.all_eq_true]
  intro c hc
  have := TL.numL_digits n c hc
  simp
  omega
theorem numL_len60 {n : Nat} (h : n < 10 ^ 60) : (TL.numL n).length ≤ 60 := TL.numL_len (by decide) h
theorem ntx_len {i : Int} (h : i.natAbs < 10 ^ 60) : (ntx i).length ≤ 61 := by
  unfold ntx
  have := numL_len60 h
  split
  · rw [List.length_cons]; omega
  · omega
theorem asc_ntx (i : Int) : asc (ntx i) := by
  unfold ntx
  split
  · rw [asc_cons]; exact ⟨by decide, asc_num _⟩
  · exact asc_num _
theorem asc_ftx (a b : Int) : asc (ftx a b) := by
  unfold ftx
  split
  · exact asc_ntx a
  · rw [asc_app, asc_cons]; exact ⟨asc_ntx a, by decide, asc_ntx b⟩
theorem asc_unm {l : List Nat} (h : asc l) : asc (unm l) := by
  unfold unm
  split
  · exact (asc_cons.mp h).2
  · exact h
theorem unm_len (l : List Nat) : (unm l).length ≤ l.length := by
  unfold unm
  split
  · simp
  · exact Nat.le_refl _
def oN : Option Int → PyData
  | none => .none
  | some i => .int i
def oF : Option (Int × Int) → PyData
  | none => .none
  | some (a, b) => q2 a b
inductive R_ntext (k : Nat) : Gr
  | mk {i : Int} {s} (h : i.natAbs < 10 ^ 60) (hk : (0 ≤ i ∧ 1 ≤ k) ∨ 2 ≤ k) : R_ntext k [.d (.int i)] s (.d (.str (S (ntx i)))) s
inductive R_nof : Gr
  | mk {l s} (h : dig l = true) (hz : l.length < 60) : R_nof [.d (.str (S l))] s (.d (.int ((val l : Nat) : Int))) s
inductive R_nin : Gr
  | mk {l s} (h : asc l) (hz : l.length < 60) : R_nin [.d (.str (S l))] s (.d (oN (numIn l))) s
inductive R_ftext : Gr
  | mk {a b : Int} {s} (ha : a.natAbs < 10 ^ 60) (hb : b.natAbs < 10 ^ 60) : R_ftext [.d (q2 a b)] s (.d (.str (S (ftx a b)))) s
inductive R_forn : Gr
  | mk {l s} (h : asc l) (hz : l.length < 60) : R_forn [.d (.str (S l))] s (.d (oF (fracOr l))) s
section
local macro_rules | `(tactic| walk_at "sd") => `(tactic| first | rfl | assumption | exact Nat.le_of_ble_eq_true rfl | decide | omega | (walk_at "sd2"))
local macro_rules | `(tactic| walk_at "sd2") => `(tactic| first | exact cm_sm (by assumption) (by assumption) | exact cf_sm (by assumption) (by assumption) | ((with_reducible apply gs); (walk_at "sd")) | exact cm_fm7 | exact cm_if | exact cm_l (by omega) (by omega) | exact cm_r (by omega) (by omega) | exact cf_c (by omega) (by omega))
local macro_rules | `(tactic| walk_at "isi") => `(tactic| with_reducible first | exact kit_int | exact kit_bool | exact kit_tuple | exact kit_list | exact kit_str)
local macro_rules | `(tactic| walk_at "und") => `(tactic| with_reducible repeat (first | exact Und.nil | apply Und.cons))
local macro_rules | `(tactic| walk_at "op") => `(tactic| (first
  | with_reducible exact o_add | with_reducible exact o_minus | with_reducible exact o_lt | with_reducible exact o_gt | with_reducible exact o_le | with_reducible exact o_ge | with_reducible exact o_neg
  | with_reducible exact o_isN | with_reducible exact o_isntN | with_reducible exact o_isB | with_reducible exact o_isntB | with_reducible exact o_neS | with_reducible exact o_eqS
  | with_reducible exact o_abs | with_reducible exact o_intB | with_reducible exact o_min2 | with_reducible exact o_max2 | with_reducible exact o_lenL | with_reducible exact o_lenT | with_reducible exact o_lenC | with_reducible exact o_gcd
  | with_reducible apply o_ixT | with_reducible apply o_ixL | with_reducible apply o_ixM | with_reducible apply o_ixS | with_reducible apply o_lenM
  | with_reducible apply o_mul | with_reducible apply o_fdiv | with_reducible apply o_mod | with_reducible apply o_pow | with_reducible apply o_eq | with_reducible apply o_ne | with_reducible apply o_catT | with_reducible apply o_repr | with_reducible apply o_all) <;> walk_at "sd")
local macro_rules | `(tactic| walk_at "opn") => `(tactic| (first
  | with_reducible apply o_cat | with_reducible apply o_repI | with_reducible exact o_listT | with_reducible exact o_listL) <;> walk_at "sd")
local macro_rules | `(tactic| walk_at "ea") => `(tactic| first
  | with_reducible exact eva_nil
  | ((with_reducible apply eva_cons); (walk_at "ev"); (walk_at "ea")))
local macro_rules | `(tactic| walk_at "call") => `(tactic| fail)
local macro_rules | `(tactic| walk_at "evn") => `(tactic| first
  | ((with_reducible apply evn_lstU); (walk_at "ea"); (walk_at "und"); (walk_at "sd"))
  | ((with_reducible apply evn_op); (walk_at "ev"); (walk_at "ev"); (walk_at "opn"))
  | ((with_reducible apply evn_cb); (walk_at "ea"); (walk_at "opn"))
  | ((with_reducible apply evn_call); (walk_at "ea"); (walk_at "call")))
local macro_rules | `(tactic| walk_at "ev") => `(tactic| first
  | with_reducible exact ev_int | with_reducible exact ev_bl | with_reducible exact ev_non | with_reducible exact ev_str
  | ((with_reducible apply ev_var); rfl)
  | ((with_reducible apply ev_op); (walk_at "ev"); (walk_at "ev"); (walk_at "op"))
  | ((with_reducible apply ev_un); (walk_at "ev"); (walk_at "op"))
  | ((with_reducible apply ev_call); (walk_at "ea"); (walk_at "call"))
  | ((with_reducible apply ev_callD); (walk_at "ea"); (intro _ _; exact rxs_1); (walk_at "call"))
  | ((with_reducible apply ev_callK); (walk_at "ea"); rfl; (intro _ _ _ hh; first | exact rxs_swap2 hh | exact rxs_same1 hh); (walk_at "call"))
  | ((with_reducible apply ev_isi); (walk_at "ev"); (walk_at "isi"))
  | ((with_reducible apply ev_isi2); (walk_at "ev"); (walk_at "isi"); (walk_at "isi"))
  | ((with_reducible apply ev_cb); (walk_at "ea"); (walk_at "op"))
  | ((with_reducible apply ev_tupU); (walk_at "ea"); (walk_at "und"); (walk_at "sd"))
  | ((with_reducible apply ev_new); (walk_at "evn"))
  | ((with_reducible apply ev_slT); (walk_at "ev"); (walk_at "eo"); (walk_at "eo"))
  | ((with_reducible apply ev_andV); (walk_at "ev"); (intro _; walk_at "ev"); (intro _; rfl))
  | ((with_reducible apply ev_orV); (walk_at "ev"); (intro _; walk_at "ev"); (intro _; rfl))
  | ((with_reducible apply ev_notV); (walk_at "ev")))
local macro_rules | `(tactic| walk_at "eo") => `(tactic| first
  | with_reducible exact eo_none
  | ((with_reducible apply eo_some); (walk_at "ev")))
local macro_rules | `(tactic| walk_at "et") => `(tactic| first
  | ((with_reducible apply et_test); (walk_at "ev"))
  | ((with_reducible apply et_B); (walk_at "ev"))
  | ((with_reducible apply et_not); (walk_at "et"))
  | ((with_reducible apply et_and); (walk_at "et"); (intro _; walk_at "et"); (intro _; rfl))
  | ((with_reducible apply et_or); (walk_at "et"); (intro _; walk_at "et"); (intro _; rfl)))
local macro_rules | `(tactic| walk_at "w") => `(tactic| first
  | (with_reducible apply w_seq)
  | (with_reducible apply w_next)
  | ((with_reducible apply w_asg); (walk_at "ev"))
  | ((with_reducible apply w_ret); (walk_at "ev"))
  | ((with_reducible apply w_drop); (walk_at "ev"))
  | ((with_reducible apply w_par); (walk_at "ea"))
  | ((with_reducible apply w_tup2); (walk_at "ev"))
  | ((with_reducible apply w_tup3); (walk_at "ev"))
  | ((with_reducible apply w_setI); (walk_at "ev"); (walk_at "ev"); (walk_at "ev"); (walk_at "sd"); (walk_at "sd"))
  | ((with_reducible apply w_if); (walk_at "et")))

variable {P : Program} {w : World} {K : Pw.Fg} {mg : Str → Option Value} {base : Heap} {f : Addr} {fd : FuncData} {ζ : ZA}
theorem ok_ntext (Z : Zx K mg ζ) (hm : mg "number_text" = some (.ref f)) (G : Fun K "number_text" "number_text" s_number_text f fd) : ∀ n, FnOk P w K mg base CX0 n f fd ["number"] (spF K (R_ntext n))
  | 0 => ⟨spF_len fun xs s x s' h => by cases h; rfl, fun A outer s H args us vs Q E hr e0 hb hv ⟨M, xs, st, x, st', h, _⟩ => by
    cases h with
    | mk h hk => omega⟩
  | n + 1 => by
    have c_number_text : Cb P w K mg base "number_text" n [] (spF K (R_ntext n)) := cb_mk G hm (ok_ntext Z hm G n) fun _ _ _ _ _ _ us hl => match us, hl with | [_], _ => rfl
    refine G.ok sc_number_text (spF_len fun xs s x s' h => by cases h; rfl) (fun cdv A outer s H vs Q E hr ⟨M, xs, st, x, st', h, So, rx, q⟩ => ?_)
    cases h with
    | @mk i _ h hk =>
    refine ⟨_, (pss_cons (ps_if (pt_cmpR op_ltA (pv 0) (pe_int) (nomark _)) (pss_one (ps_ret (pe_op (opk_plus (K := K)) (pe_str) (pe_cb c_number_text (hr.mono (by omega)) (by rfl) (pa_cons (pe_un un_negA (pv 0)) pa_nil))))) pss_nil)
      (pss_cons (ps_set (i := 1) sc_number_text.nd rfl (.inl rfl) (pe_lst pa_nil))
      (pss_cons (ps_set (i := 2) sc_number_text.nd rfl (.inl rfl) (pv 0))
      (pss_cons (ps_while PassesOwn.never (pt_cmpR op_geA (pv 2) (pe_glob (v := .int 1000000000000000000000000000000000000000000000000000000000000) (by rfl) Z.g_SPAN ⟨_, rfl⟩) (nomark _)) pss_never)
      (pss_cons (ps_expr (pe_bm PySem.F.plainAttrs_list PySem.F.slot_list_append PySem.F.type_list_append mt_append (pv 1) (pa_cons (pe_callTy cb_strI (by rfl) Z.z_str bt_str (pa_cons (pv 2) pa_nil)) pa_nil)))
      (pss_one (ps_ret (pe_bm PySem.F.plainAttrs_str PySem.F.slot_str_join PySem.F.type_str_join (mtk_join (K := K)) (pe_str) (pa_cons (pe_rev rv_one (pv 1) (po_some (pe_un un_negA (pe_int)))) pa_nil))))))))), ?_⟩
    refine w_run So rx ?_
    try simp only [nox_K, cx_K, List.map_cons, List.map_nil]
    have q' := okr_0 q So.len
    iterate 2 (walk_at "w")
    · intro c
      have c := of_decide_eq_true c
      dsimp only
      refine w_ret (x := .d (.str (S (ntx i)))) (s1 := st) ?_ q'
      have RT : R_ntext n [.d (.int (-i))] st (.d (.str (S (ntx (-i))))) st := .mk (by omega) (.inl ⟨by omega, by omega⟩)
      have e : S (ntx i) = S [45] ++ S (ntx (-i)) := by
        rw [SX.S_cat]
        unfold ntx
        rw [if_pos c, if_neg (by omega), Int.natAbs_neg]
        rfl
      rw [e]
      refine ev_op (ev_sS (by decide +kernel)) (ev_call ?_ RT) (o_addS ?_)
      · walk_at "ea"
      · have := ntx_len (i := -i) (by rw [Int.natAbs_neg]; exact h)
        rw [len_S, len_S]
        simp
        omega
    · intro c
      have c := of_decide_eq_false c
      obtain ⟨m, rfl⟩ := Int.eq_ofNat_of_zero_le (show 0 ≤ i by omega)
      have hm60 : m < 10 ^ 60 := by omega
      have eN : S (ntx (m : Int)) = Str.ofString (toString ((m : Nat) : Int)) := by
        rw [SX.num_S]
        unfold ntx
        rw [if_neg (by omega), Int.natAbs_natCast]
      have nl := numL_len60 hm60
      iterate 2 (walk_at "w")
      refine w_asgN (s1 := st) (ds := []) ?_ ?_
      · exact evn_lstU eva_nil .nil (by decide)
      dsimp only [List.set]
      iterate 3 (walk_at "w")
      dsimp only
      refine w_while (fun k ρ s => s = st ++ [[]] ∧ ρ = [some (.d (.int (m : Int))), some (.loc st.length), some (.d (.int (m : Int))), none] ∧ k = 0) ⟨0, rfl, rfl, rfl⟩ ?_
      rintro k ρ s2 ⟨rfl, rfl, rfl⟩
      refine ⟨decide ((1000000000000000000000000000000000000000000000000000000000000 : Int) ≤ m), st ++ [[]], ?_, ?_, ?_⟩
      · walk_at "et"
      · intro c2
        have c2 := of_decide_eq_true c2
        omega
      · intro _
        dsimp only
        walk_at "w"
        refine w_app (l := st.length) (s1 := st ++ [[]]) (ds := []) (d := .str (S (ntx (m : Int)))) (ev_var rfl) ?_ (by simp) (by decide) ?_ ⟨_, by simp; rfl⟩
        · refine eva_cons (Ev.is (ev_cb (eva_cons (ev_var rfl) eva_nil) (o_strI ?_)) (by rw [eN])) eva_nil
          exact Nat.lt_of_lt_of_le (Km.log_sm (n := 200) (i := (m : Int)) ⟨Nat.lt_trans h (by decide)⟩ (by decide)) (by decide)
        refine w_at (s' := st ++ [[.str (S (ntx (m : Int)))]]) ?_ rfl (by simp)
        dsimp only
        refine w_ret (x := .d (.str (S (ntx (m : Int))))) (s1 := st ++ [[.str (S (ntx (m : Int)))]]) ?_ ?_
        rotate_left
        · exact okr_d (t := [[.str (S (ntx (m : Int)))]]) q So.len
        refine ev_join1 (ev_sS (by decide +kernel)) (eva_cons (ev_rv1 (ev_var rfl) eo_m1 (by simp)) eva_nil) ?_
        have := ntx_len (i := (m : Int)) h
        omega
theorem ok_nof (Z : Zx K mg ζ) (G : Fun K "_number_of" "_number_of" s__number_of f fd) : FnOk P w K mg base CX0 1 f fd ["digits"] (spF K R_nof) := by
  refine G.ok sc__number_of (spF_len fun xs s x s' h => by cases h; rfl) (fun cdv A outer s H vs Q E hr ⟨M, xs, st, x, st', h, So, rx, q⟩ => ?_)
  cases h with
  | @mk l _ h hz =>
  refine ⟨_, (pss_cons (ps_set (i := 1) sc__number_of.nd rfl (.inl rfl) (pe_op op_modA (pe_callB (cbk_len (K := K)) (by rfl) Z.z_len bt_len (pa_cons (pv 0) pa_nil)) (pe_glob (v := .int 60) (by rfl) Z.g_PIECE ⟨_, rfl⟩)))
      (pss_cons (ps_set (i := 2) sc__number_of.nd rfl (.inl rfl) (pe_callTy cb_intS (by rfl) Z.z_int bt_int (pa_cons (pe_op (opk_plus (K := K)) (pe_str) (pe_slice sl_str (pv 0) po_none (po_some (pv 1)))) pa_nil)))
      (pss_cons (ps_for PassesOwn.never rfl (pi_range3 (by rfl) Z.z_range (pa_cons (pv 1) (pa_cons (pe_callB (cbk_len (K := K)) (by rfl) Z.z_len bt_len (pa_cons (pv 0) pa_nil)) (pa_cons (pe_glob (v := .int 60) (by rfl) Z.g_PIECE ⟨_, rfl⟩) pa_nil)))) (pg_name (i := 3) sc__number_of.nd rfl (Or.inl rfl)) pss_never)
      (pss_one (ps_ret (pv 2)))))), ?_⟩
  refine w_run So rx ?_
  try simp only [nox_K, cx_K, List.map_cons, List.map_nil]
  have q' := okr_0 q So.len
  obtain ⟨z1, z2⟩ := int_0 h (by omega)
  have em : ((l.length : Nat) : Int).fmod 60 = ((l.length : Nat) : Int) := by
    rw [Int.fmod_eq_emod_of_nonneg _ (by decide)]
    omega
  have ct : cutS (S l) none (some ((l.length : Nat) : Int)) = S l := by rw [cut_to, List.take_length]
  have lnS : Ev K (tC (.int 0)) (rho0 N__number_of [.d (.str (S l))]) st (.d (.int 0)) st := ev_int
  walk_at "w"
  refine w_asg (x := .d (.int ((l.length : Nat) : Int))) (s1 := st) ?_ ?_
  · refine Ev.is (ev_op (ev_cb (eva_cons (ev_var rfl) eva_nil) (o_lenS (by rw [len_S]; omega))) ev_int (o_mod (by decide))) ?_
    rw [len_S, em]
  dsimp only [List.set]
  walk_at "w"
  refine w_asg (x := .d (.int ((val l : Nat) : Int))) (s1 := st) (ev_cb (eva_cons (ev_op ev_str (ev_slS (ev_var rfl) eo_none (eo_some (ev_var rfl)) (by omega) ct) (o_addS ?_)) eva_nil) (o_intS z1 z2)) ?_
  · rw [show Str.ofString "0" = S [48] from by decide +kernel, len_S, len_S]
    simp
    omega
  dsimp only [List.set]
  walk_at "w"
  refine w_for30 (i := ((l.length : Nat) : Int)) (j := ((l.length : Nat) : Int)) (c := 60) (s1 := st) (eva_cons (ev_var rfl) (eva_cons ?_ (eva_cons ev_int eva_nil))) (rg0 (by omega) (by omega)) ?_
  · refine Ev.is (ev_cb (eva_cons (ev_var rfl) eva_nil) (o_lenS (by rw [len_S]; omega))) ?_
    rw [len_S]
  dsimp only
  refine w_ret (s1 := st) (ev_var rfl) q'
theorem ok_nin (Z : Zx K mg ζ) (c__number_of : Cb P w K mg base "_number_of" 1 [] (spF K R_nof)) (G : Fun K "number_in" "number_in" s_number_in f fd) : FnOk P w K mg base CX0 2 f fd ["text"] (spF K R_nin) := by
  refine G.ok sc_number_in (spF_len fun xs s x s' h => by cases h; rfl) (fun cdv A outer s H vs Q E hr ⟨M, xs, st, x, st', h, So, rx, q⟩ => ?_)
  cases h with
  | @mk l _ h hz =>
  refine ⟨_, (pss_cons (ps_set (i := 1) sc_number_in.nd rfl (.inl rfl) (pe_bm PySem.F.plainAttrs_str PySem.F.slot_str_removeprefix PySem.F.type_str_removeprefix mt_removeprefix (pv 0) (pa_cons (pe_str) pa_nil)))
      (pss_cons (ps_if (PW.pt (pw_or (pt_not (pt_val (pe_bm0 PySem.F.plainAttrs_str PySem.F.slot_str_isascii PySem.F.type_str_isascii mt_isascii (pv 1)))) (pw_or1 (pt_not (pt_val (pe_bm0 PySem.F.plainAttrs_str PySem.F.slot_str_isdigit PySem.F.type_str_isdigit mt_isdigit (pv 1))))))) (pss_one (ps_ret (pe_non))) pss_nil)
      (pss_cons (ps_if (PW.pt (pw_and (pt_cmpR (opk_eq (K := K) hr.units) (pe_ix (ixk (K := K)) (pv 1) (pe_int) (fun _ _ => rfl)) (pe_str) (nomark _)) (pw_and1 (pt_cmpR (opk_ne (K := K) hr.units) (pv 0) (pe_str) (nomark _))))) (pss_one (ps_ret (pe_non))) pss_nil)
      (pss_cons (ps_set (i := 2) sc_number_in.nd rfl (.inl rfl) (pe_cb c__number_of (hr.mono (by decide)) (by rfl) (pa_cons (pv 1) pa_nil)))
      (pss_cons (ps_if (pt_cmpR (opk_eq (K := K) hr.units) (pv 1) (pv 0) (nomark _)) (pss_one (ps_ret (pv 2))) pss_nil)
      (pss_one (ps_ret (pe_un un_negA (pv 2))))))))), ?_⟩
  refine w_run So rx ?_
  try simp only [nox_K, cx_K, List.map_cons, List.map_nil]
  have q' := okr_0 q So.len
  have hu := asc_unm h
  have lu := unm_len l
  walk_at "w"
  refine w_asg (x := .d (.str (S (unm l)))) (s1 := st) (ev_rmp (ev_var rfl) (eva_cons (ev_sS (by decide +kernel)) eva_nil) (by omega)) ?_
  dsimp only [List.set]
  walk_at "w"
  refine w_if (b := !dig (unm l)) (s1 := st) (EvT.is (b := !((unm l).all (· < 128)) || !dig (unm l)) (et_or (et_not (et_B (ev_isascii (ev_var rfl)))) (fun _ => et_not (et_B (ev_isdigit (ev_var rfl) hu))) (fun _ => rfl)) (by rw [hu]; rfl)) ?_ ?_
  · intro c
    have c : dig (unm l) = false := by simpa using c
    have e : numIn l = none := by unfold numIn; rw [c]; rfl
    rw [e] at q'
    exact w_ret ev_non q'
  · intro c
    have c : dig (unm l) = true := by simpa using c
    obtain ⟨hd, hn⟩ := Ks.dig_all c
    obtain ⟨x, r, exr⟩ : ∃ x r, unm l = x :: r := by
      cases h : unm l with
      | nil => exact absurd h hn
      | cons x r => exact ⟨x, r, rfl⟩
    have at0 : atI (unm l) 0 = some x := by rw [exr]; simp [atI, ixN]
    have hx : asc [x] := by rw [exr, asc_cons] at hu; rw [asc_cons]; exact ⟨hu.1, rfl⟩
    have a48 : asc [48] := rfl
    have hh : decide ((unm l).head? = some 48) = decide ([x] = [48]) := by rw [exr]; simp
    have RN : R_nof [.d (.str (S (unm l)))] st (.d (.int ((val (unm l) : Nat) : Int))) st := .mk c (by omega)
    try dsimp only
    walk_at "w"
    walk_at "w"
    refine w_if (b := decide ([x] = [48]) && !decide (l = [48])) (s1 := st) (et_and (EvT.is (et_test (ev_op (ev_op (ev_var rfl) ev_int (o_ixSg at0 (by omega))) (ev_sS (l := [48]) (by decide +kernel)) (o_eq (sh_S hx) (sh_S a48)))) eqv_S) (fun _ => EvT.is (et_test (ev_op (ev_var rfl) (ev_sS (l := [48]) (by decide +kernel)) (o_ne (sh_S h) (sh_S a48)))) (by rw [eqv_S])) (fun _ => rfl)) ?_ ?_
    · intro c2
      have e : numIn l = none := by unfold numIn; rw [c, hh, c2]; rfl
      rw [e] at q'
      exact w_ret ev_non q'
    · intro c2
      have e : numIn l = some (if unm l = l then ((val (unm l) : Nat) : Int) else -((val (unm l) : Nat) : Int)) := by unfold numIn; rw [c, hh, c2]; rfl
      rw [e] at q'
      try dsimp only
      walk_at "w"
      walk_at "w"
      refine w_asg (x := .d (.int ((val (unm l) : Nat) : Int))) (s1 := st) (ev_call (eva_cons (ev_var rfl) eva_nil) RN) ?_
      dsimp only [List.set]
      walk_at "w"
      refine w_if (b := decide (unm l = l)) (s1 := st) (EvT.is (et_test (ev_op (ev_var rfl) (ev_var rfl) (o_eq (sh_S hu) (sh_S h)))) eqv_S) ?_ ?_
      · intro c3
        rw [if_pos (of_decide_eq_true c3)] at q'
        exact w_ret (ev_var rfl) q'
      · intro c3
        rw [if_neg (of_decide_eq_false c3)] at q'
        try dsimp only
        walk_at "w"
        exact w_ret (ev_un (ev_var rfl) o_neg) q'
end
end K05
namespace K05
open PySem L2 Pw
open SX (S)
open Ks (ntx ftx numIn fracOr unm dig figs val rOk rtx sf FF frOk pairO)
theorem ntx_small {i : Int} (h : (ntx i).length < 60) : i.natAbs < 10 ^ 60 := by
  rcases Nat.lt_or_ge i.natAbs (10 ^ 60) with c | c
  · exact c
  · exfalso
    have h1 : 60 + 1 ≤ (TL.numL i.natAbs).length := by
      unfold TL.numL
      rw [List.length_map]
      exact PyProof.Rows.digits10_ge c
    unfold ntx at h
    split at h
    · rw [List.length_cons] at h; omega
    · omega
theorem ftx_small {a b : Int} (h : (ftx a b).length < 60) (hb : 0 < b) : a.natAbs < 10 ^ 60 ∧ b.natAbs < 10 ^ 60 := by
  unfold ftx at h
  split at h
  · rename_i e
    exact ⟨ntx_small h, by subst e; decide⟩
  · rw [List.length_append, List.length_cons] at h
    exact ⟨ntx_small (by omega), ntx_small (by omega)⟩
theorem ftx_len {a b : Int} (ha : a.natAbs < 10 ^ 60) (hb : b.natAbs < 10 ^ 60) : (ftx a b).length ≤ 200 := by
  have h1 := ntx_len ha
  have h2 := ntx_len hb
  unfold ftx
  split
  · omega
  · rw [List.length_append, List.length_cons]; omega
theorem isF_some {a b : Int} (h : 0 < b) (g : Nat.gcd a.natAbs b.natAbs = 1) : isF (q2 a b) = true := by
  show (decide (0 < b) && (((Nat.gcd a.natAbs b.natAbs : Nat) : Int) == 1)) = true
  rw [g, decide_eq_true h]
  rfl
theorem eqv_q2 {a b c d : Int} : PyData.eqv (q2 a b) (q2 c d) = decide ((a, b) = (c, d)) := by
  rw [Bool.eq_iff_iff]
  simp [PyData.eqv, PyData.eqvAll]
theorem eqv_bb {a b : Bool} : PyData.eqv (.bool a) (.bool b) = (a == b) := rfl
/-- a told fraction, or none -/
def Lo : Option FF → Prop
  | none => True
  | some x => 0 < x.2 ∧ Nat.gcd x.1.natAbs x.2.natAbs = 1
theorem lo_forn (l : List Nat) : Lo (fracOr l) := by
  cases h : fracOr l with
  | none => trivial
  | some x => exact (Ks.fracOr_back (a := x.1) (b := x.2) h).2
theorem isF_oF {x : Option FF} (h : Lo x) : isF (oF x) = x.isSome := by
  cases x with
  | none => rfl
  | some x => exact isF_some h.1 h.2
inductive R_isrt : Gr
  | mk {a b : Option FF} {u : Option Int} {s} (ha : Lo a) (hb : Lo b) : R_isrt [.d (t3 (oF a) (oF b) (oN u))] s (.d (.bool (rOk a b u))) s
inductive R_rtext : Gr
  | mk {a1 a2 b1 b2 u : Int} {s} (h1 : a1.natAbs < 10 ^ 60) (h2 : a2.natAbs < 10 ^ 60) (h3 : b1.natAbs < 10 ^ 60) (h4 : b2.natAbs < 10 ^ 60) (h5 : u.natAbs < 10 ^ 60) : R_rtext [.d (t3 (q2 a1 a2) (q2 b1 b2) (.int u))] s (.d (.str (S (rtx (a1, a2) (b1, b2) u)))) s
open Classical in
theorem sf_prt {n s u : Nat} (p : Km.Prt n s u) : sf (n : Int) = decide (s = 1 ∧ u = n) := by
  unfold sf
  rw [Int.toNat_natCast]
  by_cases c : s = 1 ∧ u = n
  · obtain ⟨rfl, rfl⟩ := c
    rw [decide_eq_true p]
    simp
  · rw [decide_eq_false c]
    exact decide_eq_false fun q => c (by
      have := p.uniq q
      exact this)
section
local macro_rules | `(tactic| walk_at "sd") => `(tactic| first | rfl | assumption | exact Nat.le_of_ble_eq_true rfl | decide | omega | (walk_at "sd2"))
local macro_rules | `(tactic| walk_at "sd2") => `(tactic| first | exact cm_sm (by assumption) (by assumption) | exact cf_sm (by assumption) (by assumption) | ((with_reducible apply gs); (walk_at "sd")) | exact cm_fm7 | exact cm_if | exact cm_l (by omega) (by omega) | exact cm_r (by omega) (by omega) | exact cf_c (by omega) (by omega))
local macro_rules | `(tactic| walk_at "isi") => `(tactic| with_reducible first | exact kit_int | exact kit_bool | exact kit_tuple | exact kit_list | exact kit_str)
local macro_rules | `(tactic| walk_at "und") => `(tactic| with_reducible repeat (first | exact Und.nil | apply Und.cons))
local macro_rules | `(tactic| walk_at "op") => `(tactic| (first
  | with_reducible exact o_add | with_reducible exact o_minus | with_reducible exact o_lt | with_reducible exact o_gt | with_reducible exact o_le | with_reducible exact o_ge | with_reducible exact o_neg
  | with_reducible exact o_isN | with_reducible exact o_isntN | with_reducible exact o_isB | with_reducible exact o_isntB | with_reducible exact o_neS | with_reducible exact o_eqS
  | with_reducible exact o_abs | with_reducible exact o_intB | with_reducible exact o_min2 | with_reducible exact o_max2 | with_reducible exact o_lenL | with_reducible exact o_lenT | with_reducible exact o_lenC | with_reducible exact o_gcd
  | with_reducible apply o_ixT | with_reducible apply o_ixL | with_reducible apply o_ixM | with_reducible apply o_ixS | with_reducible apply o_lenM
  | with_reducible apply o_mul | with_reducible apply o_fdiv | with_reducible apply o_mod | with_reducible apply o_pow | with_reducible apply o_eq | with_reducible apply o_ne | with_reducible apply o_catT | with_reducible apply o_repr | with_reducible apply o_all) <;> walk_at "sd")
local macro_rules | `(tactic| walk_at "opn") => `(tactic| (first
  | with_reducible apply o_cat | with_reducible apply o_repI | with_reducible exact o_listT | with_reducible exact o_listL) <;> walk_at "sd")
local macro_rules | `(tactic| walk_at "ea") => `(tactic| first
  | with_reducible exact eva_nil
  | ((with_reducible apply eva_cons); (walk_at "ev"); (walk_at "ea")))
local macro_rules | `(tactic| walk_at "call") => `(tactic| fail)
local macro_rules | `(tactic| walk_at "evn") => `(tactic| first
  | ((with_reducible apply evn_lstU); (walk_at "ea"); (walk_at "und"); (walk_at "sd"))
  | ((with_reducible apply evn_op); (walk_at "ev"); (walk_at "ev"); (walk_at "opn"))
  | ((with_reducible apply evn_cb); (walk_at "ea"); (walk_at "opn"))
  | ((with_reducible apply evn_call); (walk_at "ea"); (walk_at "call")))
local macro_rules | `(tactic| walk_at "ev") => `(tactic| first
  | with_reducible exact ev_int | with_reducible exact ev_bl | with_reducible exact ev_non | with_reducible exact ev_str
  | ((with_reducible apply ev_var); rfl)
  | ((with_reducible apply ev_op); (walk_at "ev"); (walk_at "ev"); (walk_at "op"))
  | ((with_reducible apply ev_un); (walk_at "ev"); (walk_at "op"))
  | ((with_reducible apply ev_call); (walk_at "ea"); (walk_at "call"))
  | ((with_reducible apply ev_callD); (walk_at "ea"); (intro _ _; exact rxs_1); (walk_at "call"))
  | ((with_reducible apply ev_callK); (walk_at "ea"); rfl; (intro _ _ _ hh; first | exact rxs_swap2 hh | exact rxs_same1 hh); (walk_at "call"))
  | ((with_reducible apply ev_isi); (walk_at "ev"); (walk_at "isi"))
  | ((with_reducible apply ev_isi2); (walk_at "ev"); (walk_at "isi"); (walk_at "isi"))
  | ((with_reducible apply ev_cb); (walk_at "ea"); (walk_at "op"))
  | ((with_reducible apply ev_tupU); (walk_at "ea"); (walk_at "und"); (walk_at "sd"))
  | ((with_reducible apply ev_new); (walk_at "evn"))
  | ((with_reducible apply ev_slT); (walk_at "ev"); (walk_at "eo"); (walk_at "eo"))
  | ((with_reducible apply ev_andV); (walk_at "ev"); (intro _; walk_at "ev"); (intro _; rfl))
  | ((with_reducible apply ev_orV); (walk_at "ev"); (intro _; walk_at "ev"); (intro _; rfl))
  | ((with_reducible apply ev_notV); (walk_at "ev")))
local macro_rules | `(tactic| walk_at "eo") => `(tactic| first
  | with_reducible exact eo_none
  | ((with_reducible apply eo_some); (walk_at "ev")))
local macro_rules | `(tactic| walk_at "et") => `(tactic| first
  | ((with_reducible apply et_test); (walk_at "ev"))
  | ((with_reducible apply et_B); (walk_at "ev"))
  | ((with_reducible apply et_not); (walk_at "et"))
  | ((with_reducible apply et_and); (walk_at "et"); (intro _; walk_at "et"); (intro _; rfl))
  | ((with_reducible apply et_or); (walk_at "et"); (intro _; walk_at "et"); (intro _; rfl)))
local macro_rules | `(tactic| walk_at "w") => `(tactic| first
  | (with_reducible apply w_seq)
  | (with_reducible apply w_next)
  | ((with_reducible apply w_asg); (walk_at "ev"))
  | ((with_reducible apply w_ret); (walk_at "ev"))
  | ((with_reducible apply w_drop); (walk_at "ev"))
  | ((with_reducible apply w_par); (walk_at "ea"))
  | ((with_reducible apply w_tup2); (walk_at "ev"))
  | ((with_reducible apply w_tup3); (walk_at "ev"))
  | ((with_reducible apply w_setI); (walk_at "ev"); (walk_at "ev"); (walk_at "ev"); (walk_at "sd"); (walk_at "sd"))
  | ((with_reducible apply w_if); (walk_at "et")))

variable {P : Program} {w : World} {K : Pw.Fg} {mg : Str → Option Value} {base : Heap} {f : Addr} {fd : FuncData} {ζ : ZA}
section
local macro_rules | `(tactic| walk_at "call") => `(tactic| first
  | exact R_isF.mk
  | exact R_num.mk
  | assumption)
local macro_rules | `(tactic| walk_at "ev") => `(tactic| with_reducible exact ev_tref (Zx.n_NOUGHT (by assumption)))
theorem ok_ftext (c_number_text : Cb P w K mg base "number_text" 2 [] (spF K (R_ntext 2))) (G : Fun K "frac_text" "frac_text" s_frac_text f fd) : FnOk P w K mg base CX0 3 f fd ["one"] (spF K R_ftext) := by
  refine G.ok sc_frac_text (spF_len fun xs s x s' h => by cases h; rfl) (fun cdv A outer s H vs Q E hr ⟨M, xs, st, x, st', h, So, rx, q⟩ => ?_)
  cases h with
  | @mk a b _ ha hb =>
  refine ⟨_, (pss_cons (ps_asg (pv 0) (pgk_tup (K := K) 2 (by rfl) (pgs_cons (pg_name (i := 1) sc_frac_text.nd rfl (Or.inl rfl)) (pgs_cons (pg_name (i := 2) sc_frac_text.nd rfl (Or.inl rfl)) pgs_nil))))
      (pss_cons (ps_if (pt_cmpR (opk_eq (K := K) hr.units) (pv 2) (pe_int) (nomark _)) (pss_one (ps_ret (pe_cb c_number_text (hr.mono (by omega)) (by rfl) (pa_cons (pv 1) pa_nil)))) pss_nil)
      (pss_one (ps_ret (pe_op (opk_plus (K := K)) (pe_op (opk_plus (K := K)) (pe_cb c_number_text (hr.mono (by omega)) (by rfl) (pa_cons (pv 1) pa_nil)) (pe_str)) (pe_cb c_number_text (hr.mono (by omega)) (by rfl) (pa_cons (pv 2) pa_nil))))))), ?_⟩
  refine w_run So rx ?_
  try simp only [nox_K, cx_K, List.map_cons, List.map_nil]
  have q' := okr_0 q So.len
  have T1 : R_ntext 2 [.d (.int a)] st (.d (.str (S (ntx a)))) st := .mk ha (.inr (Nat.le_refl _))
  have T2 : R_ntext 2 [.d (.int b)] st (.d (.str (S (ntx b)))) st := .mk hb (.inr (Nat.le_refl _))
  iterate 4 (walk_at "w")
  · intro c
    rw [eqv_ii] at c
    have c := of_decide_eq_true c
    have e : ftx a b = ntx a := by unfold ftx; rw [if_pos c]
    rw [e] at q'
    walk_at "w"
    exact q'
  · intro c
    rw [eqv_ii] at c
    have c := of_decide_eq_false c
    have e : S (ftx a b) = S (ntx a) ++ S [47] ++ S (ntx b) := by
      unfold ftx
      rw [if_neg c, SX.S_cat, SX.S_cat]
      simp
    rw [e] at q'
    try dsimp only
    walk_at "w"
    have l1 := ntx_len ha
    have l2 := ntx_len hb
    refine w_ret (s1 := st) (ev_op (ev_op (ev_call (eva_cons (ev_var rfl) eva_nil) T1) (ev_sS (l := [47]) (by decide +kernel)) (o_addS ?_)) (ev_call (eva_cons (ev_var rfl) eva_nil) T2) (o_addS ?_)) q'
    · rw [len_S, len_S]; simp; omega
    · rw [SX.S_cat, len_S, len_S]; simp; omega
theorem ok_forn (Z : Zx K mg ζ) (c_number_in : Cb P w K mg base "number_in" 2 [] (spF K R_nin)) (c_is_frac : Cb P w K mg base "is_frac" 2 [] (spF K R_isF)) (G : Fun K "frac_or_none" "frac_or_none" s_frac_or_none f fd) : FnOk P w K mg base CX0 3 f fd ["text"] (spF K R_forn) := by
  refine G.ok sc_frac_or_none (spF_len fun xs s x s' h => by cases h; rfl) (fun cdv A outer s H vs Q E hr ⟨M, xs, st, x, st', h, So, rx, q⟩ => ?_)
  cases h with
  | @mk l _ h hz =>
  refine ⟨_, (pss_cons (ps_asg (pe_bm PySem.F.plainAttrs_str PySem.F.slot_str_partition PySem.F.type_str_partition mt_partition (pv 0) (pa_cons (pe_str) pa_nil)) (pgk_tup (K := K) 3 (by rfl) (pgs_cons (pg_name (i := 1) sc_frac_or_none.nd rfl (Or.inl rfl)) (pgs_cons (pg_name (i := 2) sc_frac_or_none.nd rfl (Or.inl rfl)) (pgs_cons (pg_name (i := 3) sc_frac_or_none.nd rfl (Or.inl rfl)) pgs_nil)))))
      (pss_cons (ps_if (pt_cmpR (opk_eq (K := K) hr.units) (pv 2) (pe_str) (nomark _)) (pss_cons (ps_set (i := 4) sc_frac_or_none.nd rfl (.inl rfl) (pe_cb c_number_in (hr.mono (by decide)) (by rfl) (pa_cons (pv 1) pa_nil)))
      (pss_one (ps_ret (pe_ifExp (pt_cmpR op_is (pv 4) (pe_non) (nomark _)) (pe_non) (pe_tup (pa_cons (pv 4) (pa_cons (pe_int) pa_nil))))))) pss_nil)
      (pss_cons (ps_set (i := 5) sc_frac_or_none.nd rfl (.inl rfl) (pe_tup (pa_cons (pe_cb c_number_in (hr.mono (by decide)) (by rfl) (pa_cons (pv 1) pa_nil)) (pa_cons (pe_cb c_number_in (hr.mono (by decide)) (by rfl) (pa_cons (pv 3) pa_nil)) pa_nil))))
      (pss_cons (ps_if (PW.pt (pw_or (pt_not (pt_val (pe_cb c_is_frac (hr.mono (by decide)) (by rfl) (pa_cons (pv 5) pa_nil)))) (pw_or1 (pt_cmpR (opk_eq (K := K) hr.units) (pe_ix (ixk (K := K)) (pv 5) (pe_int) (fun _ _ => rfl)) (pe_int) (nomark _))))) (pss_one (ps_ret (pe_non))) pss_nil)
      (pss_one (ps_ret (pv 5))))))), ?_⟩
  refine w_run So rx ?_
  try simp only [nox_K, cx_K, List.map_cons, List.map_nil]
  have q' := okr_0 q So.len
  walk_at "w"
  cases e : Ks.cut1 47 l with
  | none =>
    rw [Ks.fracOr_n e] at q'
    have RN : R_nin [.d (.str (S l))] st (.d (oN (numIn l))) st := .mk h hz
    refine w_tup3 (s1 := st) (ev_part (ev_var rfl) (eva_cons (ev_sS (by decide +kernel)) eva_nil) (by omega) (Ks.part_none e)) ?_
    dsimp only [List.set]
    walk_at "w"
    refine w_if (b := true) (s1 := st) (EvT.is (et_test (ev_op (ev_var rfl) (ev_sS (l := []) (by decide +kernel)) (o_eq (sh_S rfl) (sh_S rfl)))) (by rw [eqv_S]; rfl)) ?_ (fun c => by cases c)
    intro _
    try dsimp only
    walk_at "w"
    refine w_asg (x := .d (oN (numIn l))) (s1 := st) (ev_call (eva_cons (ev_var rfl) eva_nil) RN) ?_
    dsimp only [List.set]
    cases en : numIn l with
    | none =>
      rw [en] at q'
      refine w_ret (x := .d .none) (s1 := st) (ev_if (b := true) (et_test (ev_op (ev_var rfl) ev_non o_isN)) (fun _ => ev_non) (fun c => by cases c)) q'
    | some i =>
      rw [en] at q'
      refine w_ret (x := .d (q2 i 1)) (s1 := st) (ev_if (b := false) (et_test (ev_op (ev_var rfl) ev_non o_isN)) (fun c => by cases c) (fun _ => ?_)) q'
      exact ev_tupU (eva_cons (ev_var rfl) (eva_cons ev_int eva_nil)) (.cons (.cons .nil)) (Nat.le_of_ble_eq_true rfl)
  | some z =>
    obtain ⟨p, t⟩ := z
    rw [Ks.fracOr_s e] at q'
    obtain ⟨el, _⟩ := Ks.cut1_some e
    have al : asc p ∧ asc (47 :: t) := by rw [el] at h; exact asc_app.mp h
    have at' := (asc_cons.mp al.2).2
    have ll : l.length = p.length + (t.length + 1) := by rw [el]; simp
    have R1 : R_nin [.d (.str (S p))] st (.d (oN (numIn p))) st := .mk al.1 (by omega)
    have R2 : R_nin [.d (.str (S t))] st (.d (oN (numIn t))) st := .mk at' (by omega)
    refine w_tup3 (s1 := st) (ev_part (ev_var rfl) (eva_cons (ev_sS (by decide +kernel)) eva_nil) (by omega) (Ks.part_some e)) ?_
    dsimp only [List.set]
    walk_at "w"
    refine w_if (b := false) (s1 := st) (EvT.is (et_test (ev_op (ev_var rfl) (ev_sS (l := []) (by decide +kernel)) (o_eq (sh_S rfl) (sh_S rfl)))) (by rw [eqv_S]; rfl)) (fun c => by cases c) ?_
    intro _
    try dsimp only
    walk_at "w"
    walk_at "w"
    refine w_asg (x := .d (.tuple [oN (numIn p), oN (numIn t)])) (s1 := st) (ev_tupU (eva_cons (ev_call (eva_cons (ev_var rfl) eva_nil) R1) (eva_cons (ev_call (eva_cons (ev_var rfl) eva_nil) R2) eva_nil)) (.cons (.cons .nil)) (Nat.le_of_ble_eq_true rfl)) ?_
    dsimp only [List.set]
    walk_at "w"
    have IF : R_isF [.d (.tuple [oN (numIn p), oN (numIn t)])] st (.d (.bool (isF (.tuple [oN (numIn p), oN (numIn t)])))) st := .mk
    cases ef : isF (.tuple [oN (numIn p), oN (numIn t)]) with
    | false =>
      have eo : oF (pairO (numIn p) (numIn t)) = .none := by
        cases e1 : numIn p with
        | none => rfl
        | some a =>
          cases e2 : numIn t with
          | none => rfl
          | some b =>
            rw [e1, e2] at ef
            have ef : (decide (0 < b) && (((Nat.gcd a.natAbs b.natAbs : Nat) : Int) == 1)) = false := ef
            show oF (if frOk a b = true then some (a, b) else none) = _
            rw [if_neg]
            · rfl
            · unfold frOk
              intro z
              rw [Bool.and_eq_true, Bool.and_eq_true] at z
              have := of_decide_eq_true z.1.2
              rw [z.1.1, this] at ef
              cases ef
      rw [eo] at q'
      rw [ef] at IF
      refine w_if (b := true) (s1 := st) (et_or1 (et_not (b := false) (et_B (ev_call (eva_cons (ev_var rfl) eva_nil) IF)))) (fun _ => w_ret ev_non q') (fun c => by cases c)
    | true =>
      cases e1 : numIn p with
      | none => rw [e1] at ef; cases e2 : numIn t <;> rw [e2] at ef <;> cases ef
      | some a =>
        cases e2 : numIn t with
        | none => rw [e1, e2] at ef; cases ef
        | some b =>
          rw [e1, e2] at ef q' IF
          rw [ef] at IF
          have ef : (decide (0 < b) && (((Nat.gcd a.natAbs b.natAbs : Nat) : Int) == 1)) = true := ef
          have fo : frOk a b = !decide (b = 1) := by
            unfold frOk
            rw [Bool.and_eq_true, beq_iff_eq] at ef
            rw [ef.1, decide_eq_true (show Nat.gcd a.natAbs b.natAbs = 1 by have := ef.2; omega)]
            rfl
          have q' : Okr K M H (.d (oF (if frOk a b = true then some (a, b) else none))) st Q := q'
          rw [fo] at q'
          refine w_if (b := decide (b = 1)) (s1 := st) (EvT.is (b := false || decide (b = 1)) (et_or (et_not (b := true) (et_B (ev_call (eva_cons (ev_var rfl) eva_nil) IF))) (fun _ => EvT.is (et_B (ev_op (ev_op (ev_var rfl) ev_int (o_ixT rfl)) ev_int (o_eq rfl rfl))) eqv_ii) (fun c => by cases c)) rfl) ?_ ?_
          · intro c
            rw [c] at q'
            exact w_ret ev_non q'
          · intro c
            rw [c] at q'
            try dsimp only
            walk_at "w"
            exact w_ret (ev_var rfl) q'
end
end
end K05
namespace K05
open PySem L2 Pw
open SX (S)
open Ks (ntx ftx numIn fracOr unm dig figs val rOk rtx sf FF frOk pairO progR candA candB candU)
theorem rOk_s {a b : FF} {n : Int} : rOk (some a) (some b) (some n) = (decide (1 ≤ n) && decide (n ≤ 1000000) && (decide (n = 1) == decide (b = (0, 1))) && sf n) := rfl
section
local macro_rules | `(tactic| walk_at "sd") => `(tactic| first | rfl | assumption | exact Nat.le_of_ble_eq_true rfl | decide | omega | (walk_at "sd2"))
local macro_rules | `(tactic| walk_at "sd2") => `(tactic| first | exact cm_sm (by assumption) (by assumption) | exact cf_sm (by assumption) (by assumption) | ((with_reducible apply gs); (walk_at "sd")) | exact cm_fm7 | exact cm_if | exact cm_l (by omega) (by omega) | exact cm_r (by omega) (by omega) | exact cf_c (by omega) (by omega))
local macro_rules | `(tactic| walk_at "isi") => `(tactic| with_reducible first | exact kit_int | exact kit_bool | exact kit_tuple | exact kit_list | exact kit_str)
local macro_rules | `(tactic| walk_at "und") => `(tactic| with_reducible repeat (first | exact Und.nil | apply Und.cons))
local macro_rules | `(tactic| walk_at "op") => `(tactic| (first
  | with_reducible exact o_add | with_reducible exact o_minus | with_reducible exact o_lt | with_reducible exact o_gt | with_reducible exact o_le | with_reducible exact o_ge | with_reducible exact o_neg
  | with_reducible exact o_isN | with_reducible exact o_isntN | with_reducible exact o_isB | with_reducible exact o_isntB | with_reducible exact o_neS | with_reducible exact o_eqS
  | with_reducible exact o_abs | with_reducible exact o_intB | with_reducible exact o_min2 | with_reducible exact o_max2 | with_reducible exact o_lenL | with_reducible exact o_lenT | with_reducible exact o_lenC | with_reducible exact o_gcd
  | with_reducible apply o_ixT | with_reducible apply o_ixL | with_reducible apply o_ixM | with_reducible apply o_ixS | with_reducible apply o_lenM
  | with_reducible apply o_mul | with_reducible apply o_fdiv | with_reducible apply o_mod | with_reducible apply o_pow | with_reducible apply o_eq | with_reducible apply o_ne | with_reducible apply o_catT | with_reducible apply o_repr | with_reducible apply o_all) <;> walk_at "sd")
local macro_rules | `(tactic| walk_at "opn") => `(tactic| (first
  | with_reducible apply o_cat | with_reducible apply o_repI | with_reducible exact o_listT | with_reducible exact o_listL) <;> walk_at "sd")
local macro_rules | `(tactic| walk_at "ea") => `(tactic| first
  | with_reducible exact eva_nil
  | ((with_reducible apply eva_cons); (walk_at "ev"); (walk_at "ea")))
local macro_rules | `(tactic| walk_at "call") => `(tactic| fail)
local macro_rules | `(tactic| walk_at "evn") => `(tactic| first
  | ((with_reducible apply evn_lstU); (walk_at "ea"); (walk_at "und"); (walk_at "sd"))
  | ((with_reducible apply evn_op); (walk_at "ev"); (walk_at "ev"); (walk_at "opn"))
  | ((with_reducible apply evn_cb); (walk_at "ea"); (walk_at "opn"))
  | ((with_reducible apply evn_call); (walk_at "ea"); (walk_at "call")))
local macro_rules | `(tactic| walk_at "ev") => `(tactic| first
  | with_reducible exact ev_int | with_reducible exact ev_bl | with_reducible exact ev_non | with_reducible exact ev_str
  | ((with_reducible apply ev_var); rfl)
  | ((with_reducible apply ev_op); (walk_at "ev"); (walk_at "ev"); (walk_at "op"))
  | ((with_reducible apply ev_un); (walk_at "ev"); (walk_at "op"))
  | ((with_reducible apply ev_call); (walk_at "ea"); (walk_at "call"))
  | ((with_reducible apply ev_callD); (walk_at "ea"); (intro _ _; exact rxs_1); (walk_at "call"))
  | ((with_reducible apply ev_callK); (walk_at "ea"); rfl; (intro _ _ _ hh; first | exact rxs_swap2 hh | exact rxs_same1 hh); (walk_at "call"))
  | ((with_reducible apply ev_isi); (walk_at "ev"); (walk_at "isi"))
  | ((with_reducible apply ev_isi2); (walk_at "ev"); (walk_at "isi"); (walk_at "isi"))
  | ((with_reducible apply ev_cb); (walk_at "ea"); (walk_at "op"))
  | ((with_reducible apply ev_tupU); (walk_at "ea"); (walk_at "und"); (walk_at "sd"))
  | ((with_reducible apply ev_new); (walk_at "evn"))
  | ((with_reducible apply ev_slT); (walk_at "ev"); (walk_at "eo"); (walk_at "eo"))
  | ((with_reducible apply ev_andV); (walk_at "ev"); (intro _; walk_at "ev"); (intro _; rfl))
  | ((with_reducible apply ev_orV); (walk_at "ev"); (intro _; walk_at "ev"); (intro _; rfl))
  | ((with_reducible apply ev_notV); (walk_at "ev")))
local macro_rules | `(tactic| walk_at "eo") => `(tactic| first
  | with_reducible exact eo_none
  | ((with_reducible apply eo_some); (walk_at "ev")))
local macro_rules | `(tactic| walk_at "et") => `(tactic| first
  | ((with_reducible apply et_test); (walk_at "ev"))
  | ((with_reducible apply et_B); (walk_at "ev"))
  | ((with_reducible apply et_not); (walk_at "et"))
  | ((with_reducible apply et_and); (walk_at "et"); (intro _; walk_at "et"); (intro _; rfl))
  | ((with_reducible apply et_or); (walk_at "et"); (intro _; walk_at "et"); (intro _; rfl)))
local macro_rules | `(tactic| walk_at "w") => `(tactic| first
  | (with_reducible apply w_seq)
  | (with_reducible apply w_next)
  | ((with_reducible apply w_asg); (walk_at "ev"))
  | ((with_reducible apply w_ret); (walk_at "ev"))
  | ((with_reducible apply w_drop); (walk_at "ev"))
  | ((with_reducible apply w_par); (walk_at "ea"))
  | ((with_reducible apply w_tup2); (walk_at "ev"))
  | ((with_reducible apply w_tup3); (walk_at "ev"))
  | ((with_reducible apply w_setI); (walk_at "ev"); (walk_at "ev"); (walk_at "ev"); (walk_at "sd"); (walk_at "sd"))
  | ((with_reducible apply w_if); (walk_at "et")))

variable {P : Program} {w : World} {K : Pw.Fg} {mg : Str → Option Value} {base : Heap} {f : Addr} {fd : FuncData} {ζ : ZA} {fdT : FuncData}
section
local macro_rules | `(tactic| walk_at "call") => `(tactic| first
  | exact R_isF.mk
  | exact R_num.mk
  | assumption)
local macro_rules | `(tactic| walk_at "ev") => `(tactic| with_reducible exact ev_tref (Zx.n_NOUGHT (by assumption)))
theorem ok_isrt (Z : Zx K mg ζ) (c_is_frac : Cb P w K mg base "is_frac" 2 [] (spF K R_isF)) (c_is_number : Cb P w K mg base "is_number" 1 [] (spF K R_num)) (c__parted : Cb P w K mg base "_parted" 1 [] (spF K R_parted))
    (G : Fun K "is_root" "is_root" s_is_root f fd) : FnOk P w K mg base CX0 3 f fd ["thing"] (spF K R_isrt) := by
  refine G.ok sc_is_root (spF_len fun xs s x s' h => by cases h; rfl) (fun cdv A outer s H vs Q E hr ⟨M, xs, st, x, st', h, So, rx, q⟩ => ?_)
  cases h with
  | @mk a b u _ ha hb =>
  refine ⟨_, (pss_cons (ps_if (PW.pt (pw_or (pt_not (pt_val (pe_callB (cbk_isi (K := K)) (by rfl) Z.z_isinstance bt_isinstance (pa_cons (pv 0) (pa_cons (pe_bltn (v := .ty "tuple") (by rfl) Z.z_tuple bt_tuple rfl) pa_nil))))) (pw_or1 (pt_cmpR (opk_ne (K := K) hr.units) (pe_callB (cbk_len (K := K)) (by rfl) Z.z_len bt_len (pa_cons (pv 0) pa_nil)) (pe_int) (nomark _))))) (pss_one (ps_ret (pe_bl))) pss_nil)
      (pss_cons (ps_asg (pv 0) (pgk_tup (K := K) 3 (by rfl) (pgs_cons (pg_name (i := 1) sc_is_root.nd rfl (Or.inl rfl)) (pgs_cons (pg_name (i := 2) sc_is_root.nd rfl (Or.inl rfl)) (pgs_cons (pg_name (i := 3) sc_is_root.nd rfl (Or.inl rfl)) pgs_nil)))))
      (pss_cons (ps_if (PW.pt (pw_or (pt_not (pt_val (pe_cb c_is_frac (hr.mono (by decide)) (by rfl) (pa_cons (pv 1) pa_nil)))) (pw_or (pt_not (pt_val (pe_cb c_is_frac (hr.mono (by decide)) (by rfl) (pa_cons (pv 2) pa_nil)))) (pw_or1 (pt_not (pt_val (pe_cb c_is_number (hr.mono (by decide)) (by rfl) (pa_cons (pv 3) pa_nil)))))))) (pss_one (ps_ret (pe_bl))) pss_nil)
      (pss_cons (ps_if (PW.pt (pw_or (pt_cmpR op_ltA (pv 3) (pe_int) (nomark _)) (pw_or1 (pt_cmpR op_gtA (pv 3) (pe_glob (v := .int 1000000) (by rfl) Z.g_ROOTS ⟨_, rfl⟩) (nomark _))))) (pss_one (ps_ret (pe_bl))) pss_nil)
      (pss_one (ps_ret (pe_and (pe_cmpR (opk_eq (K := K) hr.units) (pe_cmpR (opk_eq (K := K) hr.units) (pv 3) (pe_int) (nomark _)) (pe_cmpR (opk_eq (K := K) hr.units) (pv 2) (pe_glob (v := .ref ζ.TN) (by rfl) Z.g_NOUGHT rfl) (nomark _)) (nomark _)) (pe_one (pe_cmpR (opk_eq (K := K) hr.units) (pe_cb c__parted (hr.mono (by decide)) (by rfl) (pa_cons (pv 3) pa_nil)) (pe_tup (pa_cons (pe_int) (pa_cons (pv 3) pa_nil))) (nomark _)))))))))), ?_⟩
  refine w_run So rx ?_
  try simp only [nox_K, cx_K, List.map_cons, List.map_nil]
  have q' := okr_0 q So.len
  have IA : R_isF [.d (oF a)] st (.d (.bool (isF (oF a)))) st := .mk
  have IB : R_isF [.d (oF b)] st (.d (.bool (isF (oF b)))) st := .mk
  have IU : R_num [.d (oN u)] st (.d (.bool (isNum (oN u)))) st := .mk
  rw [isF_oF ha] at IA
  rw [isF_oF hb] at IB
  have eu : isNum (oN u) = u.isSome := by cases u <;> rfl
  rw [eu] at IU
  iterate 2 (walk_at "w")
  · intro c
    cases c
  · intro _
    iterate 3 (walk_at "w")
    dsimp only [List.set]
    walk_at "w"
    refine w_if (b := !a.isSome || (!b.isSome || !u.isSome)) (s1 := st) (et_or (et_not (et_B (ev_call (eva_cons (ev_var rfl) eva_nil) IA))) (fun _ => et_or (et_not (et_B (ev_call (eva_cons (ev_var rfl) eva_nil) IB))) (fun _ => et_not (et_B (ev_call (eva_cons (ev_var rfl) eva_nil) IU))) (fun _ => rfl)) (fun _ => rfl)) ?_ ?_
    · intro c
      have e : rOk a b u = false := by
        cases a <;> cases b <;> cases u <;> first | rfl | cases c
      rw [e] at q'
      exact w_ret ev_bl q'
    · intro c
      cases a with
      | none => cases c
      | some a =>
        cases b with
        | none => cases c
        | some b =>
          cases u with
          | none => cases c
          | some n =>
            obtain ⟨b1, b2⟩ := b
            rw [rOk_s] at q'
            try dsimp only
            walk_at "w"
            walk_at "w"
            refine w_if (b := decide (n < 1) || decide (1000000 < n)) (s1 := st) (et_or (et_test (ev_op (ev_var rfl) ev_int o_lt)) (fun _ => et_test (ev_op (ev_var rfl) ev_int o_gt)) (fun _ => rfl)) ?_ ?_
            · intro c2
              have e : (decide (1 ≤ n) && decide (n ≤ 1000000)) = false := by
                rw [Bool.or_eq_true] at c2
                rcases c2 with z | z
                · have := of_decide_eq_true z
                  rw [decide_eq_false (show ¬ 1 ≤ n by omega)]; rfl
                · have := of_decide_eq_true z
                  rw [decide_eq_false (show ¬ n ≤ 1000000 by omega), Bool.and_false]
              rw [e] at q'
              exact w_ret ev_bl q'
            · intro c2
              rw [Bool.or_eq_false_iff] at c2
              have n1 := of_decide_eq_false c2.1
              have n2 := of_decide_eq_false c2.2
              rw [decide_eq_true (show 1 ≤ n by omega), decide_eq_true (show n ≤ 1000000 by omega), Bool.true_and, Bool.true_and] at q'
              obtain ⟨m, rfl⟩ := Int.eq_ofNat_of_zero_le (show 0 ≤ n by omega)
              obtain ⟨s0, u0, pr⟩ := Km.Prt.ex m m (Nat.le_refl _) (by omega)
              have RP : R_parted [.d (.int (m : Int))] st (.d (q2 s0 u0)) st := .mk pr (by omega)
              try dsimp only
              walk_at "w"
              try dsimp only
              refine w_ret (x := .d (.bool ((decide ((m : Int) = 1) == decide ((b1, b2) = ((0 : Int), (1 : Int)))) && sf (m : Int)))) (s1 := st) ?_ ?_
              rotate_left
              · exact q'
              refine ev_andV (s1 := st) (Ev.is (ev_op (Ev.is (ev_op (ev_var rfl) ev_int (o_eq rfl rfl)) (congrArg (fun z => Dx.d (PyData.bool z)) (eqv_ii (a := (m : Int)) (b := 1)))) (Ev.is (ev_op (ev_var rfl) (ev_tref (Z.n_NOUGHT)) (o_eq sh2 sh2)) (congrArg (fun z => Dx.d (PyData.bool z)) (eqv_q2 (a := b1) (b := b2) (c := 0) (d := 1)))) (o_eq rfl rfl)) (congrArg (fun z => Dx.d (PyData.bool z)) eqv_bb)) (fun _ => ?_) (fun _ => rfl)
              refine Ev.is (ev_op (ev_call (eva_cons (ev_var rfl) eva_nil) RP) (ev_tupU (eva_cons ev_int (eva_cons (ev_var rfl) eva_nil)) (.cons (.cons .nil)) (Nat.le_of_ble_eq_true rfl)) (o_eq sh2 sh2)) ?_
              rw [sf_prt pr]
              show Dx.d (PyData.bool (PyData.eqv (q2 (s0 : Int) (u0 : Int)) (q2 1 (m : Int)))) = _
              rw [eqv_q2]
              congr 2
              refine decide_eq_decide.mpr ?_
              simp
              omega
theorem ok_rtext (Z : Zx K mg ζ) (c_number_text : Cb P w K mg base "number_text" 2 [] (spF K (R_ntext 2))) (c_frac_text : Cb P w K mg base "frac_text" 3 [] (spF K R_ftext)) (G : Fun K "root_text" "root_text" s_root_text f fd) : FnOk P w K mg base CX0 4 f fd ["root"] (spF K R_rtext) := by
  refine G.ok sc_root_text (spF_len fun xs s x s' h => by cases h; rfl) (fun cdv A outer s H vs Q E hr ⟨M, xs, st, x, st', h, So, rx, q⟩ => ?_)
  cases h with
  | @mk a1 a2 b1 b2 u _ h1 h2 h3 h4 h5 =>
  refine ⟨_, (pss_cons (ps_asg (pv 0) (pgk_tup (K := K) 3 (by rfl) (pgs_cons (pg_name (i := 1) sc_root_text.nd rfl (Or.inl rfl)) (pgs_cons (pg_name (i := 2) sc_root_text.nd rfl (Or.inl rfl)) (pgs_cons (pg_name (i := 3) sc_root_text.nd rfl (Or.inl rfl)) pgs_nil)))))
      (pss_cons (ps_if (pt_cmpR (opk_eq (K := K) hr.units) (pv 2) (pe_glob (v := .ref ζ.TN) (by rfl) Z.g_NOUGHT rfl) (nomark _)) (pss_one (ps_ret (pe_cb c_frac_text (hr.mono (by decide)) (by rfl) (pa_cons (pv 1) pa_nil)))) pss_nil)
      (pss_cons (ps_set (i := 4) sc_root_text.nd rfl (.inl rfl) (pe_op (opk_plus (K := K)) (pe_op (opk_plus (K := K)) (pe_cb c_frac_text (hr.mono (by decide)) (by rfl) (pa_cons (pv 2) pa_nil)) (pe_str)) (pe_cb c_number_text (hr.mono (by omega)) (by rfl) (pa_cons (pv 3) pa_nil))))
      (pss_cons (ps_if (pt_cmpR (opk_eq (K := K) hr.units) (pv 1) (pe_glob (v := .ref ζ.TN) (by rfl) Z.g_NOUGHT rfl) (nomark _)) (pss_one (ps_ret (pv 4))) pss_nil)
      (pss_one (ps_ret (pe_op (opk_plus (K := K)) (pe_op (opk_plus (K := K)) (pe_cb c_frac_text (hr.mono (by decide)) (by rfl) (pa_cons (pv 1) pa_nil)) (pe_str)) (pv 4)))))))), ?_⟩
  refine w_run So rx ?_
  try simp only [nox_K, cx_K, List.map_cons, List.map_nil]
  have q' := okr_0 q So.len
  have TA : R_ftext [.d (q2 a1 a2)] st (.d (.str (S (ftx a1 a2)))) st := .mk h1 h2
  have TB : R_ftext [.d (q2 b1 b2)] st (.d (.str (S (ftx b1 b2)))) st := .mk h3 h4
  have TU : R_ntext 2 [.d (.int u)] st (.d (.str (S (ntx u)))) st := .mk h5 (.inr (Nat.le_refl _))
  have l1 := ftx_len h1 h2
  have l2 := ftx_len h3 h4
  have l3 := ntx_len h5
  iterate 3 (walk_at "w")
  dsimp only [List.set]
  refine w_if (b := decide ((b1, b2) = ((0 : Int), (1 : Int)))) (s1 := st) (EvT.is (et_test (ev_op (ev_var rfl) (ev_tref (Z.n_NOUGHT)) (o_eq sh2 sh2))) eqv_q2) ?_ ?_
  · intro c
    have e : rtx (a1, a2) (b1, b2) u = ftx a1 a2 := by unfold rtx; rw [if_pos (of_decide_eq_true c)]
    rw [e] at q'
    exact w_ret (ev_call (eva_cons (ev_var rfl) eva_nil) TA) q'
  · intro c
    have e : rtx (a1, a2) (b1, b2) u = (if (a1, a2) = ((0 : Int), (1 : Int)) then [] else ftx a1 a2 ++ [32]) ++ (ftx b1 b2 ++ 114 :: ntx u) := by unfold rtx; rw [if_neg (of_decide_eq_false c)]
    rw [e] at q'
    have et : S (ftx b1 b2 ++ 114 :: ntx u) = S (ftx b1 b2) ++ S [114] ++ S (ntx u) := by
      rw [SX.S_cat, SX.S_cat]; simp
    try dsimp only
    walk_at "w"
    walk_at "w"
    refine w_asg (x := .d (.str (S (ftx b1 b2 ++ 114 :: ntx u)))) (s1 := st) ?_ ?_
    · rw [et]
      refine ev_op (ev_op (ev_call (eva_cons (ev_var rfl) eva_nil) TB) (ev_sS (l := [114]) (by decide +kernel)) (o_addS ?_)) (ev_call (eva_cons (ev_var rfl) eva_nil) TU) (o_addS ?_)
      · rw [len_S, len_S]; simp; omega
      · rw [SX.S_cat, len_S, len_S]; simp; omega
    dsimp only [List.set]
    walk_at "w"
    refine w_if (b := decide ((a1, a2) = ((0 : Int), (1 : Int)))) (s1 := st) (EvT.is (et_test (ev_op (ev_var rfl) (ev_tref (Z.n_NOUGHT)) (o_eq sh2 sh2))) eqv_q2) ?_ ?_
    · intro c2
      rw [if_pos (of_decide_eq_true c2), List.nil_append] at q'
      exact w_ret (ev_var rfl) q'
    · intro c2
      rw [if_neg (of_decide_eq_false c2)] at q'
      try dsimp only
      walk_at "w"
      have e3 : S (ftx a1 a2 ++ [32] ++ (ftx b1 b2 ++ 114 :: ntx u)) = S (ftx a1 a2) ++ S [32] ++ S (ftx b1 b2 ++ 114 :: ntx u) := by
        rw [SX.S_cat, SX.S_cat]
      rw [e3] at q'
      refine w_ret (s1 := st) (ev_op (ev_op (ev_call (eva_cons (ev_var rfl) eva_nil) TA) (ev_sS (l := [32]) (by decide +kernel)) (o_addS ?_)) (ev_var rfl) (o_addS ?_)) q'
      · rw [len_S, len_S]; simp; omega
      · rw [SX.S_cat, len_S, len_S]; simp; omega
end
end
end K05
namespace K05
open PySem L2 Pw
open SX (S)
open Ks (ntx ftx numIn fracOr unm dig figs val rOk rtx sf FF frOk pairO progR candA candB candU)
def oR : FF × FF × Int → PyData
  | ((a1, a2), (b1, b2), u) => t3 (q2 a1 a2) (q2 b1 b2) (.int u)
inductive R_rin : Gr
  | mk {l r s} (h : asc l) (hz : l.length < 60) (e : progR l = some r) : R_rin [.d (.str (S l))] s (.d (oR r)) s
inductive X_rin (ζ : ZA) : Gx
  | mk {l s} (h : asc l) (hz : l.length < 60) (e : progR l = none) : X_rin ζ [.d (.str (S l))] s (.ref ζ.cBadText) (some ("text", .str (S l))) s
theorem lo_A (l : List Nat) : Lo (candA l) := by
  unfold candA
  cases Ks.rcut 32 l with
  | none =>
    show Lo (match Ks.cut1 114 l with | none => fracOr l | some _ => some (0, 1))
    cases Ks.cut1 114 l with
    | none => exact lo_forn l
    | some z => exact ⟨by decide, by decide⟩
  | some z =>
    obtain ⟨h, t⟩ := z
    show Lo (match Ks.cut1 114 t with | none => fracOr l | some _ => fracOr h)
    cases Ks.cut1 114 t with
    | none => exact lo_forn l
    | some z => exact lo_forn h
theorem lo_B (l : List Nat) : Lo (candB l) := by
  unfold candB
  cases Ks.cut1 114 (Ks.tailOf l) with
  | none => exact ⟨by decide, by decide⟩
  | some z => exact lo_forn z.1
theorem small_of {l : List Nat} {a b : Int} (h : fracOr l = some (a, b)) (hl : l.length < 60) : a.natAbs < 10 ^ 60 ∧ b.natAbs < 10 ^ 60 := by
  obtain ⟨e, p, _⟩ := Ks.fracOr_back h
  rw [e] at hl
  exact ftx_small hl p
theorem small_u {l : List Nat} {a : Int} (h : numIn l = some a) (hl : l.length < 60) : a.natAbs < 10 ^ 60 := by
  rw [Ks.numIn_back h] at hl
  exact ntx_small hl
section
local macro_rules | `(tactic| walk_at "sd") => `(tactic| first | rfl | assumption | exact Nat.le_of_ble_eq_true rfl | decide | omega | (walk_at "sd2"))
local macro_rules | `(tactic| walk_at "sd2") => `(tactic| first | exact cm_sm (by assumption) (by assumption) | exact cf_sm (by assumption) (by assumption) | ((with_reducible apply gs); (walk_at "sd")) | exact cm_fm7 | exact cm_if | exact cm_l (by omega) (by omega) | exact cm_r (by omega) (by omega) | exact cf_c (by omega) (by omega))
local macro_rules | `(tactic| walk_at "isi") => `(tactic| with_reducible first | exact kit_int | exact kit_bool | exact kit_tuple | exact kit_list | exact kit_str)
local macro_rules | `(tactic| walk_at "und") => `(tactic| with_reducible repeat (first | exact Und.nil | apply Und.cons))
local macro_rules | `(tactic| walk_at "op") => `(tactic| (first
  | with_reducible exact o_add | with_reducible exact o_minus | with_reducible exact o_lt | with_reducible exact o_gt | with_reducible exact o_le | with_reducible exact o_ge | with_reducible exact o_neg
  | with_reducible exact o_isN | with_reducible exact o_isntN | with_reducible exact o_isB | with_reducible exact o_isntB | with_reducible exact o_neS | with_reducible exact o_eqS
  | with_reducible exact o_abs | with_reducible exact o_intB | with_reducible exact o_min2 | with_reducible exact o_max2 | with_reducible exact o_lenL | with_reducible exact o_lenT | with_reducible exact o_lenC | with_reducible exact o_gcd
  | with_reducible apply o_ixT | with_reducible apply o_ixL | with_reducible apply o_ixM | with_reducible apply o_ixS | with_reducible apply o_lenM
  | with_reducible apply o_mul | with_reducible apply o_fdiv | with_reducible apply o_mod | with_reducible apply o_pow | with_reducible apply o_eq | with_reducible apply o_ne | with_reducible apply o_catT | with_reducible apply o_repr | with_reducible apply o_all) <;> walk_at "sd")
local macro_rules | `(tactic| walk_at "opn") => `(tactic| (first
  | with_reducible apply o_cat | with_reducible apply o_repI | with_reducible exact o_listT | with_reducible exact o_listL) <;> walk_at "sd")
local macro_rules | `(tactic| walk_at "ea") => `(tactic| first
  | with_reducible exact eva_nil
  | ((with_reducible apply eva_cons); (walk_at "ev"); (walk_at "ea")))
local macro_rules | `(tactic| walk_at "call") => `(tactic| fail)
local macro_rules | `(tactic| walk_at "evn") => `(tactic| first
  | ((with_reducible apply evn_lstU); (walk_at "ea"); (walk_at "und"); (walk_at "sd"))
  | ((with_reducible apply evn_op); (walk_at "ev"); (walk_at "ev"); (walk_at "opn"))
  | ((with_reducible apply evn_cb); (walk_at "ea"); (walk_at "opn"))
  | ((with_reducible apply evn_call); (walk_at "ea"); (walk_at "call")))
local macro_rules | `(tactic| walk_at "ev") => `(tactic| first
  | with_reducible exact ev_int | with_reducible exact ev_bl | with_reducible exact ev_non | with_reducible exact ev_str
  | ((with_reducible apply ev_var); rfl)
  | ((with_reducible apply ev_op); (walk_at "ev"); (walk_at "ev"); (walk_at "op"))
  | ((with_reducible apply ev_un); (walk_at "ev"); (walk_at "op"))
  | ((with_reducible apply ev_call); (walk_at "ea"); (walk_at "call"))
  | ((with_reducible apply ev_callD); (walk_at "ea"); (intro _ _; exact rxs_1); (walk_at "call"))
  | ((with_reducible apply ev_callK); (walk_at "ea"); rfl; (intro _ _ _ hh; first | exact rxs_swap2 hh | exact rxs_same1 hh); (walk_at "call"))
  | ((with_reducible apply ev_isi); (walk_at "ev"); (walk_at "isi"))
  | ((with_reducible apply ev_isi2); (walk_at "ev"); (walk_at "isi"); (walk_at "isi"))
  | ((with_reducible apply ev_cb); (walk_at "ea"); (walk_at "op"))
  | ((with_reducible apply ev_tupU); (walk_at "ea"); (walk_at "und"); (walk_at "sd"))
  | ((with_reducible apply ev_new); (walk_at "evn"))
  | ((with_reducible apply ev_slT); (walk_at "ev"); (walk_at "eo"); (walk_at "eo"))
  | ((with_reducible apply ev_andV); (walk_at "ev"); (intro _; walk_at "ev"); (intro _; rfl))
  | ((with_reducible apply ev_orV); (walk_at "ev"); (intro _; walk_at "ev"); (intro _; rfl))
  | ((with_reducible apply ev_notV); (walk_at "ev")))
local macro_rules | `(tactic| walk_at "eo") => `(tactic| first
  | with_reducible exact eo_none
  | ((with_reducible apply eo_some); (walk_at "ev")))
local macro_rules | `(tactic| walk_at "et") => `(tactic| first
  | ((with_reducible apply et_test); (walk_at "ev"))
  | ((with_reducible apply et_B); (walk_at "ev"))
  | ((with_reducible apply et_not); (walk_at "et"))
  | ((with_reducible apply et_and); (walk_at "et"); (intro _; walk_at "et"); (intro _; rfl))
  | ((with_reducible apply et_or); (walk_at "et"); (intro _; walk_at "et"); (intro _; rfl)))
local macro_rules | `(tactic| walk_at "w") => `(tactic| first
  | (with_reducible apply w_seq)
  | (with_reducible apply w_next)
  | ((with_reducible apply w_asg); (walk_at "ev"))
  | ((with_reducible apply w_ret); (walk_at "ev"))
  | ((with_reducible apply w_drop); (walk_at "ev"))
  | ((with_reducible apply w_par); (walk_at "ea"))
  | ((with_reducible apply w_tup2); (walk_at "ev"))
  | ((with_reducible apply w_tup3); (walk_at "ev"))
  | ((with_reducible apply w_setI); (walk_at "ev"); (walk_at "ev"); (walk_at "ev"); (walk_at "sd"); (walk_at "sd"))
  | ((with_reducible apply w_if); (walk_at "et")))

variable {P : Program} {w : World} {K : Pw.Fg} {mg : Str → Option Value} {base : Heap} {f : Addr} {fd : FuncData} {ζ : ZA} {fdT : FuncData}
/-- the parts that are tried, and that they are small -/
structure Cnd (l : List Nat) (s : Sto) : Prop where
  A : ∀ a1 a2, candA l = some (a1, a2) → a1.natAbs < 10 ^ 60 ∧ a2.natAbs < 10 ^ 60
  B : ∀ a1 a2, candB l = some (a1, a2) → a1.natAbs < 10 ^ 60 ∧ a2.natAbs < 10 ^ 60
  U : ∀ u, candU l = some u → u.natAbs < 10 ^ 60
theorem ok_rin (Z : Zx K mg ζ) (c_frac_or_none : Cb P w K mg base "frac_or_none" 3 [] (spF K R_forn)) (c_number_in : Cb P w K mg base "number_in" 2 [] (spF K R_nin)) (c_is_root : Cb P w K mg base "is_root" 3 [] (spF K R_isrt)) (c_root_text : Cb P w K mg base "root_text" 4 [] (spF K R_rtext))
    (Oi_BadText : FnOk P w K mg base CX0 1 ζ.iBadText fdT ["self", "text"] (spIni K ζ.cBadText "text")) (Bi_BadText : Binds K fdT ["self", "text"] [])
    (G : Fun K "root_in" "root_in" s_root_in f fd) : FnOk P w K mg base (L2.CX P w) 5 f fd ["text"] (spX K R_rin (X_rin ζ)) := by
  refine G.okX sc_root_in (spX_len (fun xs s x s' h => by cases h; rfl) (fun xs s c f s' h => by cases h; rfl)) (fun cdv A outer s H vs Q E hr ⟨M, xs, st, So, rx, h⟩ => ?_)
  have tk : Takes (cxOf (L2.CX P w) P w K mg base N_root_in "root_in" (defScope s_root_in) f cdv A outer s H E) (fun cls d _ H => E cls d H) := takes_of rfl rfl rfl rfl
  refine ⟨_, (pss_cons (ps_asg (pe_bm PySem.F.plainAttrs_str PySem.F.slot_str_rpartition PySem.F.type_str_rpartition mt_rpart (pv 0) (pa_cons (pe_str) pa_nil)) (pgk_tup (K := K) 3 (by rfl) (pgs_cons (pg_name (i := 1) sc_root_in.nd rfl (Or.inl rfl)) (pgs_cons (pg_name (i := 2) sc_root_in.nd rfl (Or.inl rfl)) (pgs_cons (pg_name (i := 3) sc_root_in.nd rfl (Or.inl rfl)) pgs_nil)))))
      (pss_cons (ps_asg (pe_bm PySem.F.plainAttrs_str PySem.F.slot_str_partition PySem.F.type_str_partition mt_partition (pv 3) (pa_cons (pe_str) pa_nil)) (pgk_tup (K := K) 3 (by rfl) (pgs_cons (pg_name (i := 4) sc_root_in.nd rfl (Or.inl rfl)) (pgs_cons (pg_name (i := 5) sc_root_in.nd rfl (Or.inl rfl)) (pgs_cons (pg_name (i := 6) sc_root_in.nd rfl (Or.inl rfl)) pgs_nil)))))
      (pss_cons (ps_if (pt_cmpR (opk_eq (K := K) hr.units) (pv 5) (pe_str) (nomark _)) (pss_one (ps_set (i := 7) sc_root_in.nd rfl (.inl rfl) (pe_tup (pa_cons (pe_cb c_frac_or_none (hr.mono (by decide)) (by rfl) (pa_cons (pv 0) pa_nil)) (pa_cons (pe_glob (v := .ref ζ.TN) (by rfl) Z.g_NOUGHT rfl) (pa_cons (pe_int) pa_nil)))))) (pss_cons (ps_set (i := 8) sc_root_in.nd rfl (.inl rfl) (pe_ifExp (pt_cmpR (opk_eq (K := K) hr.units) (pv 2) (pe_str) (nomark _)) (pe_cb c_frac_or_none (hr.mono (by decide)) (by rfl) (pa_cons (pv 1) pa_nil)) (pe_glob (v := .ref ζ.TN) (by rfl) Z.g_NOUGHT rfl)))
      (pss_one (ps_set (i := 7) sc_root_in.nd rfl (.inl rfl) (pe_tup (pa_cons (pv 8) (pa_cons (pe_cb c_frac_or_none (hr.mono (by decide)) (by rfl) (pa_cons (pv 4) pa_nil)) (pa_cons (pe_cb c_number_in (hr.mono (by decide)) (by rfl) (pa_cons (pv 6) pa_nil)) pa_nil))))))))
      (pss_cons (ps_if (PW.pt (pw_or (pt_not (pt_val (pe_cb c_is_root (hr.mono (by decide)) (by rfl) (pa_cons (pv 7) pa_nil)))) (pw_or1 (pt_cmpR (opk_ne (K := K) hr.units) (pe_cb c_root_text (hr.mono (by decide)) (by rfl) (pa_cons (pv 7) pa_nil)) (pv 0) (nomark _))))) (pss_one (ps_raiseF rfl tk Z.x_BadText Z.i_BadText Z.f_BadText Oi_BadText (hr.mono (by decide)) Bi_BadText pass0 (by rfl) Z.g_BadText (pa_cons (pv 0) pa_nil))) pss_nil)
      (pss_one (ps_ret (pv 7))))))), ?_⟩
  obtain ⟨l, exs, hasc, hz, hcase⟩ : ∃ l, xs = [.d (.str (S l))] ∧ asc l ∧ l.length < 60 ∧
      ((∃ r, progR l = some r ∧ Okk K M st (.d (oR r)) H Q) ∨ (progR l = none ∧ Exk K M st (.ref ζ.cBadText) (some ("text", PyData.str (S l))) H E)) := by
    rcases h with ⟨x, st', h, q⟩ | ⟨cls, fo, st', h, q⟩
    · cases h with
      | @mk l r _ h hz e => exact ⟨l, rfl, h, hz, .inl ⟨r, e, q⟩⟩
    · cases h with
      | @mk l _ h hz e => exact ⟨l, rfl, h, hz, .inr ⟨e, q⟩⟩
  subst exs
  clear h
  refine w_run So rx ?_
  try simp only [cx_K, List.map_cons, List.map_nil]
  obtain ⟨hh, bb, tt, eR, ah, aT, lh, lt, eT, hb⟩ : ∃ hh bb tt, Txt.rpartition (S l) (S [32]) = (S hh, S bb, S tt) ∧ asc hh ∧ asc tt ∧ hh.length < 60 ∧ tt.length < 60 ∧ Ks.tailOf l = tt ∧ ((bb = [] ∧ Ks.rcut 32 l = none) ∨ (bb = [32] ∧ Ks.rcut 32 l = some (hh, tt))) := by
    cases er : Ks.rcut 32 l with
    | none => exact ⟨[], [], l, Ks.rpart_none er, rfl, hasc, by simp, hz, by unfold Ks.tailOf; rw [er], .inl ⟨rfl, rfl⟩⟩
    | some z =>
      obtain ⟨p, q⟩ := z
      obtain ⟨el, _⟩ := Ks.rcut_some er
      have h2 := hasc
      rw [el, asc_app, asc_cons] at h2
      have ll : l.length = p.length + (q.length + 1) := by rw [el]; simp
      exact ⟨p, [32], q, Ks.rpart_some er, h2.1, h2.2.2, by omega, by omega, by unfold Ks.tailOf; rw [er], .inr ⟨rfl, rfl⟩⟩
  obtain ⟨ss, mm, uu, eP, as_, au, ls, lu, hm⟩ : ∃ ss mm uu, Txt.partition (S tt) (S [114]) = (S ss, S mm, S uu) ∧ asc ss ∧ asc uu ∧ ss.length < 60 ∧ uu.length < 60 ∧ ((mm = [] ∧ Ks.cut1 114 tt = none) ∨ (mm = [114] ∧ Ks.cut1 114 tt = some (ss, uu))) := by
    cases ec : Ks.cut1 114 tt with
    | none => exact ⟨tt, [], [], Ks.part_none ec, aT, rfl, lt, by simp, .inl ⟨rfl, rfl⟩⟩
    | some z =>
      obtain ⟨p, q⟩ := z
      obtain ⟨el, _⟩ := Ks.cut1_some ec
      have h2 := aT
      rw [el, asc_app, asc_cons] at h2
      have ll : tt.length = p.length + (q.length + 1) := by rw [el]; simp
      exact ⟨p, [114], q, Ks.part_some ec, h2.1, h2.2.2, by omega, by omega, .inr ⟨rfl, rfl⟩⟩
  have RL : R_forn [.d (.str (S l))] st (.d (oF (fracOr l))) st := .mk hasc hz
  have RH : R_forn [.d (.str (S hh))] st (.d (oF (fracOr hh))) st := .mk ah lh
  have RS : R_forn [.d (.str (S ss))] st (.d (oF (fracOr ss))) st := .mk as_ ls
  have RU : R_nin [.d (.str (S uu))] st (.d (oN (numIn uu))) st := .mk au lu
  have RT : R_isrt [.d (t3 (oF (candA l)) (oF (candB l)) (oN (candU l)))] st (.d (.bool (rOk (candA l) (candB l) (candU l)))) st := .mk (lo_A l) (lo_B l)
  have amm : asc mm := by rcases hm with h | h <;> rw [h.1] <;> rfl
  have abb : asc bb := by rcases hb with h | h <;> rw [h.1] <;> rfl
  have PR : progR l = Ks.take l (candA l) (candB l) (candU l) := rfl
  have sA : ∀ a1 a2, candA l = some (a1, a2) → a1.natAbs < 10 ^ 60 ∧ a2.natAbs < 10 ^ 60 := by
    intro a1 a2 e
    unfold candA at e
    rcases hb with ⟨_, h⟩ | ⟨_, h⟩
    · rw [h] at e
      have e : (match Ks.cut1 114 l with | none => fracOr l | some _ => some (0, 1)) = some (a1, a2) := e
      cases h2 : Ks.cut1 114 l with
      | none => rw [h2] at e; exact small_of e hz
      | some z => rw [h2] at e; cases e; decide
    · rw [h] at e
      have e : (match Ks.cut1 114 tt with | none => fracOr l | some _ => fracOr hh) = some (a1, a2) := e
      cases h2 : Ks.cut1 114 tt with
      | none => rw [h2] at e; exact small_of e hz
      | some z => rw [h2] at e; exact small_of e lh
  have sB : ∀ a1 a2, candB l = some (a1, a2) → a1.natAbs < 10 ^ 60 ∧ a2.natAbs < 10 ^ 60 := by
    intro a1 a2 e
    unfold candB at e
    rw [eT] at e
    rcases hm with ⟨_, h⟩ | ⟨_, h⟩ <;> rw [h] at e
    · cases e; decide
    · exact small_of e ls
  have sU : ∀ u, candU l = some u → u.natAbs < 10 ^ 60 := by
    intro u e
    unfold candU at e
    rw [eT] at e
    rcases hm with ⟨_, h⟩ | ⟨_, h⟩ <;> rw [h] at e
    · cases e; decide
    · exact small_u e lu
  walk_at "w"
  refine w_tup3 (s1 := st) (ev_rpart (ev_var rfl) (eva_cons (ev_sS (by decide +kernel)) eva_nil) (by omega) eR) ?_
  dsimp only [List.set]
  walk_at "w"
  refine w_tup3 (s1 := st) (ev_part (ev_var rfl) (eva_cons (ev_sS (by decide +kernel)) eva_nil) (by omega) eP) ?_
  dsimp only [List.set]
  walk_at "w"
  refine w_if (b := decide (mm = [])) (s1 := st) (EvT.is (et_test (ev_op (ev_var rfl) (ev_sS (l := []) (by decide +kernel)) (o_eq (sh_S amm) (sh_S rfl)))) eqv_S) ?h1 ?h2
  case' h1 =>
    intro c
    have c := of_decide_eq_true c
    obtain ⟨_, ec⟩ : mm = [] ∧ Ks.cut1 114 tt = none := by
      rcases hm with h | h
      · exact h
      · rw [c] at h; exact absurd h.1 (by decide)
    have cA : candA l = fracOr l := by
      unfold candA
      rcases hb with ⟨_, h⟩ | ⟨_, h⟩
      · have : tt = l := by rw [← eT]; unfold Ks.tailOf; rw [h]
        rw [this] at ec
        rw [h]
        show (match Ks.cut1 114 l with | none => fracOr l | some _ => some (0, 1)) = _
        rw [ec]
      · rw [h]
        show (match Ks.cut1 114 tt with | none => fracOr l | some _ => fracOr hh) = _
        rw [ec]
    have cB : candB l = some (0, 1) := by unfold candB; rw [eT, ec]
    have cU : candU l = some 1 := by unfold candU; rw [eT, ec]
    refine w_asg (x := .d (t3 (oF (candA l)) (oF (candB l)) (oN (candU l)))) (s1 := st) ?_ ?_
    · rw [cA, cB, cU]
      exact ev_tupU (eva_cons (ev_call (eva_cons (ev_var rfl) eva_nil) RL) (eva_cons (ev_tref (Z.n_NOUGHT)) (eva_cons ev_int eva_nil))) (.cons (.cons (.cons .nil))) (Nat.le_of_ble_eq_true rfl)
  case' h2 =>
    intro c
    have c := of_decide_eq_false c
    obtain ⟨_, ec⟩ : mm = [114] ∧ Ks.cut1 114 tt = some (ss, uu) := by
      rcases hm with h | h
      · exact absurd h.1 c
      · exact h
    have cB : candB l = fracOr ss := by unfold candB; rw [eT, ec]
    have cU : candU l = numIn uu := by unfold candU; rw [eT, ec]
    dsimp only
    walk_at "w"
    refine w_asg (x := .d (oF (candA l))) (s1 := st) ?_ ?_
    · refine ev_if (b := decide (bb = [32])) (s1 := st) (EvT.is (et_test (ev_op (ev_var rfl) (ev_sS (l := [32]) (by decide +kernel)) (o_eq (sh_S abb) (sh_S rfl)))) eqv_S) (fun c3 => ?_) (fun c3 => ?_)
      · have c3 := of_decide_eq_true c3
        have cA : candA l = fracOr hh := by
          unfold candA
          rcases hb with ⟨h, _⟩ | ⟨_, h⟩
          · rw [h] at c3; exact absurd c3 (by decide)
          · rw [h]
            show (match Ks.cut1 114 tt with | none => fracOr l | some _ => fracOr hh) = _
            rw [ec]
        rw [cA]
        exact ev_call (eva_cons (ev_var rfl) eva_nil) RH
      · have c3 := of_decide_eq_false c3
        have cA : candA l = some (0, 1) := by
          unfold candA
          rcases hb with ⟨_, h⟩ | ⟨h, _⟩
          · have : tt = l := by rw [← eT]; unfold Ks.tailOf; rw [h]
            rw [this] at ec
            rw [h]
            show (match Ks.cut1 114 l with | none => fracOr l | some _ => some (0, 1)) = _
            rw [ec]
          · exact absurd h c3
        rw [cA]
        exact ev_tref (Z.n_NOUGHT)
    dsimp only [List.set]
    refine w_asg (x := .d (t3 (oF (candA l)) (oF (candB l)) (oN (candU l)))) (s1 := st) ?_ ?_
    · rw [cB, cU]
      exact ev_tupU (eva_cons (ev_var rfl) (eva_cons (ev_call (eva_cons (ev_var rfl) eva_nil) RS) (eva_cons (ev_call (eva_cons (ev_var rfl) eva_nil) RU) eva_nil))) (.cons (.cons (.cons .nil))) (Nat.le_of_ble_eq_true rfl)
  all_goals
    dsimp only [List.set]
    walk_at "w"
    cases ok : rOk (candA l) (candB l) (candU l) with
    | false =>
      have pn : progR l = none := by
        rw [PR]
        cases e1 : candA l with
        | none => rfl
        | some a =>
          cases e2 : candB l with
          | none => rfl
          | some b =>
            cases e3 : candU l with
            | none => rfl
            | some u =>
              rw [e1, e2, e3] at ok
              rw [Ks.take_3, ok, if_neg (by simp)]
      rw [ok] at RT
      rcases hcase with ⟨r, e, _⟩ | ⟨_, q⟩
      · rw [pn] at e; cases e
      · refine w_if (b := true) (s1 := st) (et_or1 (et_not (b := false) (et_B (ev_call (eva_cons (ev_var rfl) eva_nil) RT)))) (fun _ => ?_) (fun c => by cases c)
        dsimp only
        refine w_raise Z.x_BadText Z.n_BadText ?_ (wx_out So.len q)
        exact eva_cons (ev_var rfl) eva_nil
    | true =>
      cases e1 : candA l with
      | none => rw [e1] at ok; cases ok
      | some a =>
        cases e2 : candB l with
        | none => rw [e1, e2] at ok; cases ok
        | some b =>
          cases e3 : candU l with
          | none => rw [e1, e2, e3] at ok; cases ok
          | some u =>
            obtain ⟨a1, a2⟩ := a
            obtain ⟨b1, b2⟩ := b
            rw [e1, e2, e3] at RT PR ok
            rw [ok] at RT
            rw [Ks.take_3, ok] at PR
            have TX : R_rtext [.d (t3 (q2 a1 a2) (q2 b1 b2) (.int u))] st (.d (.str (S (rtx (a1, a2) (b1, b2) u)))) st := .mk (sA _ _ e1).1 (sA _ _ e1).2 (sB _ _ e2).1 (sB _ _ e2).2 (sU _ e3)
            have atx : asc (rtx (a1, a2) (b1, b2) u) := by
              unfold rtx
              split
              · exact asc_ftx _ _
              · rw [asc_app, asc_app, asc_cons]
                refine ⟨?_, asc_ftx _ _, by decide, asc_ntx _⟩
                split
                · rfl
                · rw [asc_app]; exact ⟨asc_ftx _ _, rfl⟩
            refine w_if (b := false || !decide (rtx (a1, a2) (b1, b2) u = l)) (s1 := st) (et_or (et_not (b := true) (et_B (ev_call (eva_cons (ev_var rfl) eva_nil) RT))) (fun _ => EvT.is (et_test (ev_op (ev_call (eva_cons (ev_var rfl) eva_nil) TX) (ev_var rfl) (o_ne (sh_S atx) (sh_S hasc)))) (by rw [eqv_S])) (fun c => by cases c)) (fun c => ?_) (fun c => ?_)
            · have c : rtx (a1, a2) (b1, b2) u ≠ l := by simpa using c
              rw [if_neg (fun z => c z.2)] at PR
              rcases hcase with ⟨r, e, _⟩ | ⟨_, q⟩
              · rw [PR] at e; cases e
              · dsimp only
                refine w_raise Z.x_BadText Z.n_BadText ?_ (wx_out So.len q)
                exact eva_cons (ev_var rfl) eva_nil
            · have c : rtx (a1, a2) (b1, b2) u = l := by simpa using c
              rw [if_pos ⟨rfl, c⟩] at PR
              rcases hcase with ⟨r, e, q⟩ | ⟨e, _⟩
              · rw [PR] at e
                cases e
                try dsimp only
                walk_at "w"
                exact w_ret (ev_var rfl) (okr_0 q So.len)
              · rw [PR] at e; cases e
end
end K05
/-! signs of a, b times the root of u, c times the root of v, summed up; and how far from 0 such a sum must lie: whole numbers alone -/
namespace Km
def sgn (i : Int) : Int := if 0 < i then 1 else if i < 0 then -1 else 0
theorem sgn_p {i : Int} (h : 0 < i) : sgn i = 1 := if_pos h
theorem sgn_n {i : Int} (h : i < 0) : sgn i = -1 := by unfold sgn; rw [if_neg (by omega), if_pos h]
theorem sgn_0 : sgn 0 = 0 := rfl
theorem sgn_c (i : Int) : (0 < i ∧ sgn i = 1) ∨ (i < 0 ∧ sgn i = -1) ∨ (i = 0 ∧ sgn i = 0) := by
  rcases Int.lt_trichotomy i 0 with h | h | h
  · exact .inr (.inl ⟨h, sgn_n h⟩)
  · exact .inr (.inr ⟨h, by rw [h]; rfl⟩)
  · exact .inl ⟨h, sgn_p h⟩
theorem sgn_z {i : Int} : sgn i = 0 ↔ i = 0 := by rcases sgn_c i with ⟨h, e⟩ | ⟨h, e⟩ | ⟨h, e⟩ <;> omega
theorem sgn_neg (i : Int) : sgn (-i) = -sgn i := by
  rcases sgn_c i with ⟨h, e⟩ | ⟨h, e⟩ | ⟨h, e⟩ <;> rcases sgn_c (-i) with ⟨h', e'⟩ | ⟨h', e'⟩ | ⟨h', e'⟩ <;> omega
theorem sgn_mulp {i k : Int} (hk : 0 < k) : sgn (i * k) = sgn i := by
  rcases sgn_c i with ⟨h, e⟩ | ⟨h, e⟩ | ⟨h, e⟩
  · rw [e, sgn_p (Int.mul_pos h hk)]
  · rw [e, sgn_n (Int.mul_neg_of_neg_of_pos h hk)]
  · rw [h, Int.zero_mul]
theorem sgn_mul (i j : Int) : sgn (i * j) = sgn i * sgn j := by
  rcases sgn_c j with ⟨h, e⟩ | ⟨h, e⟩ | ⟨h, e⟩
  · rw [e, sgn_mulp h, Int.mul_one]
  · rw [e, show i * j = -(i * -j) by grind, sgn_neg, sgn_mulp (by omega)]; grind
  · rw [h, Int.mul_zero, sgn_0, Int.mul_zero]
theorem sgn_l {i : Int} : (sgn i < 0) ↔ i < 0 := by rcases sgn_c i with ⟨h, e⟩ | ⟨h, e⟩ | ⟨h, e⟩ <;> omega
def sg2 (A B u : Int) : Int := if sgn A = 0 then sgn B else if sgn B = 0 ∨ sgn A = sgn B then sgn A else sgn A * sgn (A * A - B * B * u)
def sg3 (A B u C v : Int) : Int := if sg2 A B u = 0 then sgn C else if sgn C = 0 ∨ sg2 A B u = sgn C then sg2 A B u else sg2 A B u * sg2 (A * A + B * B * u - C * C * v) (2 * (A * B)) u
theorem sg2_mul {A B u k : Int} (hk : 0 < k) : sg2 (A * k) (B * k) u = sg2 A B u := by
  unfold sg2
  rw [sgn_mulp hk, sgn_mulp hk, show A * k * (A * k) - B * k * (B * k) * u = (A * A - B * B * u) * (k * k) by grind, sgn_mulp (Int.mul_pos hk hk)]
theorem sg3_mul {A B u C v k : Int} (hk : 0 < k) : sg3 (A * k) (B * k) u (C * k) v = sg3 A B u C v := by
  unfold sg3
  rw [sg2_mul hk, sgn_mulp hk, show A * k * (A * k) + B * k * (B * k) * u - C * k * (C * k) * v = (A * A + B * B * u - C * C * v) * (k * k) by grind,
    show 2 * (A * k * (B * k)) = 2 * (A * B) * (k * k) by grind, sg2_mul (Int.mul_pos hk hk)]
theorem sg2_b0 {A u : Int} : sg2 A 0 u = sgn A := by
  unfold sg2
  rw [sgn_0]
  by_cases h : sgn A = 0
  · rw [if_pos h, h]
  · rw [if_neg h, if_pos (.inl rfl)]
theorem sg2_a0 {B u : Int} : sg2 0 B u = sgn B := by
  unfold sg2
  rw [sgn_0, if_pos rfl]
theorem sg2_r (A B u : Int) : sg2 A B u = 1 ∨ sg2 A B u = -1 ∨ sg2 A B u = 0 := by
  unfold sg2
  rcases sgn_c A with ⟨h, e⟩ | ⟨h, e⟩ | ⟨h, e⟩ <;> rcases sgn_c B with ⟨h', e'⟩ | ⟨h', e'⟩ | ⟨h', e'⟩ <;> rcases sgn_c (A * A - B * B * u) with ⟨h2, e2⟩ | ⟨h2, e2⟩ | ⟨h2, e2⟩ <;> rw [e, e'] <;> simp [e2]
/-- p is the whole root of x -/
structure Sq (x p : Int) : Prop where
  p0 : 0 ≤ p
  lo : p * p ≤ x
  hi : x < (p + 1) * (p + 1)
theorem sq_ex : ∀ n : Nat, ∃ p, Sq (n : Int) p
  | 0 => ⟨0, by decide, by decide, by decide⟩
  | n + 1 => by
    obtain ⟨p, h0, h1, h2⟩ := sq_ex n
    by_cases c : ((n + 1 : Nat) : Int) < (p + 1) * (p + 1)
    · exact ⟨p, h0, by omega, c⟩
    · refine ⟨p + 1, by omega, by omega, ?_⟩
      have : (p + 1 + 1) * (p + 1 + 1) = (p + 1) * (p + 1) + 2 * p + 3 := by grind
      omega
theorem sq_exI {x : Int} (h : 0 ≤ x) : ∃ p, Sq x p := by
  obtain ⟨p, q⟩ := sq_ex x.toNat
  exact ⟨p, by rw [Int.toNat_of_nonneg h] at q; exact q⟩
theorem lt_sq {a b : Int} (hb : 0 ≤ b) (h : a * a < b * b) : a < b := by
  rcases Int.lt_or_le a b with c | c
  · exact c
  · have := Int.mul_le_mul c c hb (by omega)
    omega
theorem le_sq {a b : Int} (hb : 0 ≤ b) (h : a * a ≤ b * b) : a ≤ b := by
  have := lt_sq (a := a) (b := b + 1) (by omega) (by grind)
  omega
theorem Sq.uniq {x p q : Int} (h : Sq x p) (h' : Sq x q) : p = q := by
  have a := lt_sq (a := p) (b := q + 1) (by have := h'.p0; omega) (by have := h.lo; have := h'.hi; omega)
  have b := lt_sq (a := q) (b := p + 1) (by have := h.p0; omega) (by have := h'.lo; have := h.hi; omega)
  omega
theorem Sq.zero {p : Int} (h : Sq 0 p) : p = 0 := h.uniq ⟨by decide, by decide, by decide⟩
theorem Sq.ge {x p N : Int} (h : Sq x p) (hx : N * N ≤ x) : N ≤ p := by
  have := lt_sq (a := N) (b := p + 1) (by have := h.p0; omega) (by have := h.hi; omega)
  omega
theorem mul_c {a b c : Int} (h : 0 < c) (e : a * c ≤ b * c) : a ≤ b := Int.le_of_mul_le_mul_right e h
theorem fin1 {M N y : Int} (hM : 1 ≤ M) (hN : 0 ≤ N) (h : N ≤ y + 1) : N ≤ 2 * M * (y + 1) := by
  have := Int.mul_le_mul_of_nonneg_right (show 1 ≤ 2 * M by omega) (show 0 ≤ y + 1 by omega)
  omega
theorem core1 {a p N M x : Int} (hN : 0 < N) (ha : 0 ≤ a) (hp : 0 ≤ p) (h1 : p * p ≤ x) (h2 : x + N * N ≤ (a * N) * (a * N)) (hM : a ≤ M) : N ≤ 2 * M * (a * N - p + 1) := by
  have aN : 0 ≤ a * N := Int.mul_nonneg ha (by omega)
  have NN : 0 < N * N := Int.mul_pos hN hN
  have l : p < a * N := lt_sq aN (by omega)
  have MN : a * N ≤ M * N := Int.mul_le_mul_of_nonneg_right hM (by omega)
  have e : (a * N - p) * (a * N + p) ≤ (a * N - p) * (2 * M * N) := Int.mul_le_mul_of_nonneg_left (by grind) (by omega)
  have : N * N ≤ 2 * M * (a * N - p) * N := by grind
  have := mul_c hN this
  grind
theorem core2 {a p N M x : Int} (hN : 0 < N) (ha : 0 ≤ a) (hp : 0 ≤ p) (h1 : x < (p + 1) * (p + 1)) (h2 : (a * N) * (a * N) + N * N ≤ x) (hM : a ≤ M) (hM2 : p + 1 ≤ M * N) : N ≤ 2 * M * (p - a * N + 1) := by
  have aN : 0 ≤ a * N := Int.mul_nonneg ha (by omega)
  have NN : 0 < N * N := Int.mul_pos hN hN
  have l : a * N < p + 1 := lt_sq (by omega) (by omega)
  have MN : a * N ≤ M * N := Int.mul_le_mul_of_nonneg_right hM (by omega)
  have e : (p + 1 - a * N) * (p + 1 + a * N) ≤ (p + 1 - a * N) * (2 * M * N) := Int.mul_le_mul_of_nonneg_left (by grind) (by omega)
  have : N * N ≤ 2 * M * (p - a * N + 1) * N := by grind
  exact mul_c hN this
theorem one_le_sq {B u : Int} (hB : B ≠ 0) (hu : 1 ≤ u) : 1 ≤ B * B * u := by
  have : 1 ≤ B * B := by
    rcases Int.lt_or_gt_of_ne hB with h | h
    · have := Int.mul_pos (show 0 < -B by omega) (show 0 < -B by omega)
      grind
    · have := Int.mul_pos h h
      omega
  have := Int.mul_le_mul_of_nonneg_left hu (show 0 ≤ B * B by omega)
  omega
/-- two terms -/
theorem two {A B u N M p : Int} (hN : 0 < N) (hM : 1 ≤ M) (hu : 1 ≤ u) (hp : Sq (B * B * u * (N * N)) p) (hA1 : A ≤ M) (hA2 : -A ≤ M) (hpM : p + 1 ≤ M * N) (h : sg2 A B u ≠ 0) :
    N ≤ 2 * M * (sg2 A B u * (A * N + sgn B * p) + 1) := by
  have p0 := hp.p0
  have NN : 0 < N * N := Int.mul_pos hN hN
  have big : B ≠ 0 → N ≤ p := fun hB => hp.ge (by
    have := Int.mul_le_mul_of_nonneg_right (one_le_sq hB hu) (show 0 ≤ N * N by omega)
    omega)
  have z : B = 0 → p = 0 := fun hB => by
    subst hB
    rw [Int.zero_mul, Int.zero_mul, Int.zero_mul] at hp
    exact hp.zero
  have aN : ∀ a : Int, 0 < a → N ≤ a * N := fun a ha => by
    have := Int.mul_le_mul_of_nonneg_right (show 1 ≤ a by omega) (show 0 ≤ N by omega)
    omega
  unfold sg2 at h ⊢
  rcases sgn_c A with ⟨a, e⟩ | ⟨a, e⟩ | ⟨a, e⟩
  · rcases sgn_c B with ⟨b, f⟩ | ⟨b, f⟩ | ⟨b, f⟩
    · rw [e, f, if_neg (by decide), if_pos (.inr rfl)]
      exact fin1 hM (by omega) (by have := aN A a; omega)
    · rw [e, f, if_neg (by decide), if_neg (by decide)] at h ⊢
      rcases sgn_c (A * A - B * B * u) with ⟨d, g⟩ | ⟨d, g⟩ | ⟨d, g⟩
      · rw [g]
        have := core1 hN (show 0 ≤ A by omega) p0 hp.lo (by
          have := Int.mul_le_mul_of_nonneg_right (show B * B * u + 1 ≤ A * A by omega) (show 0 ≤ N * N by omega)
          grind) hA1
        grind
      · rw [g]
        have := core2 hN (show 0 ≤ A by omega) p0 hp.hi (by
          have := Int.mul_le_mul_of_nonneg_right (show A * A + 1 ≤ B * B * u by omega) (show 0 ≤ N * N by omega)
          grind) hA1 hpM
        grind
      · rw [g] at h
        exact absurd rfl h
    · rw [e, f, if_neg (by decide), if_pos (.inl rfl)]
      exact fin1 hM (by omega) (by have := aN A a; omega)
  · rcases sgn_c B with ⟨b, f⟩ | ⟨b, f⟩ | ⟨b, f⟩
    · rw [e, f, if_neg (by decide), if_neg (by decide)] at h ⊢
      rcases sgn_c (A * A - B * B * u) with ⟨d, g⟩ | ⟨d, g⟩ | ⟨d, g⟩
      · rw [g]
        have := core1 (a := -A) hN (show 0 ≤ -A by omega) p0 hp.lo (by
          have := Int.mul_le_mul_of_nonneg_right (show B * B * u + 1 ≤ A * A by omega) (show 0 ≤ N * N by omega)
          grind) hA2
        grind
      · rw [g]
        have := core2 (a := -A) hN (show 0 ≤ -A by omega) p0 hp.hi (by
          have := Int.mul_le_mul_of_nonneg_right (show A * A + 1 ≤ B * B * u by omega) (show 0 ≤ N * N by omega)
          grind) hA2 hpM
        grind
      · rw [g] at h
        exact absurd rfl h
    · rw [e, f, if_neg (by decide), if_pos (.inr rfl)]
      exact fin1 hM (by omega) (by have := aN (-A) (by omega); grind)
    · rw [e, f, if_neg (by decide), if_pos (.inl rfl)]
      exact fin1 hM (by omega) (by have := aN (-A) (by omega); grind)
  · rw [e, if_pos rfl] at h ⊢
    subst a
    rcases sgn_c B with ⟨b, f⟩ | ⟨b, f⟩ | ⟨b, f⟩
    · rw [f]
      exact fin1 hM (by omega) (by have := big (by omega); grind)
    · rw [f]
      exact fin1 hM (by omega) (by have := big (by omega); grind)
    · exact absurd f h
theorem bounds {A B N M p : Int} (hN : 0 < N) (hA1 : A ≤ M) (hA2 : -A ≤ M) (p0 : 0 ≤ p) (hpM : p + 1 ≤ M * N) (s : Int) (hs : s = 1 ∨ s = -1 ∨ s = 0) (t : Int) (ht : t = 1 ∨ t = -1 ∨ t = 0) : s * (A * N + t * p) ≤ 2 * (M * N) := by
  have h1 := Int.mul_le_mul_of_nonneg_right hA1 (show 0 ≤ N by omega)
  have h2 := Int.mul_le_mul_of_nonneg_right hA2 (show 0 ≤ N by omega)
  rcases hs with rfl | rfl | rfl <;> rcases ht with rfl | rfl | rfl <;> grind
/-- what's mixed: r beside twice A p -/
theorem mixed {A B u N M p r : Int} (hN : 0 < N) (hM : 1 ≤ M) (hp : Sq (B * B * u * (N * N)) p) (hr : Sq (2 * (A * B) * (2 * (A * B)) * u * (N * N)) r) (hA1 : A ≤ M) (hA2 : -A ≤ M) :
    -(2 * M) ≤ 2 * A * sgn B * p - sgn (2 * (A * B)) * r ∧ 2 * A * sgn B * p - sgn (2 * (A * B)) * r ≤ 2 * M := by
  have p0 := hp.p0
  have r0 := hr.p0
  have plo := hp.lo
  have phi := hp.hi
  have rlo := hr.lo
  have rhi := hr.hi
  have go : ∀ a : Int, 0 < a → a * a = A * A → 2 * a * p ≤ r ∧ r < 2 * a * (p + 1) := fun a ha e => by
    have e2 : 2 * (A * B) * (2 * (A * B)) * u * (N * N) = 4 * (a * a) * (B * B * u * (N * N)) := by grind
    have aa : 0 < a * a := Int.mul_pos ha ha
    rw [e2] at rlo rhi
    have k1 := Int.mul_le_mul_of_nonneg_left plo (show 0 ≤ 4 * (a * a) by omega)
    have k2 := Int.mul_lt_mul_of_pos_left phi (show 0 < 4 * (a * a) by omega)
    have ap : 0 ≤ a * p := Int.mul_nonneg (by omega) p0
    constructor
    · have := lt_sq (a := 2 * a * p) (b := r + 1) (by omega) (by grind)
      omega
    · exact lt_sq (by grind) (by grind)
  have e1 : sgn (2 * (A * B)) = sgn A * sgn B := by rw [sgn_mul, sgn_mul]; show 1 * _ = _; grind
  rw [e1]
  rcases sgn_c A with ⟨a, e⟩ | ⟨a, e⟩ | ⟨a, e⟩
  · obtain ⟨g1, g2⟩ := go A a rfl
    rcases sgn_c B with ⟨b, f⟩ | ⟨b, f⟩ | ⟨b, f⟩ <;> rw [e, f] <;> grind
  · obtain ⟨g1, g2⟩ := go (-A) (by omega) (by grind)
    rcases sgn_c B with ⟨b, f⟩ | ⟨b, f⟩ | ⟨b, f⟩ <;> rw [e, f] <;> grind
  · rw [e, a]
    grind
/-- three terms -/
theorem three {A B C u v N M M2 E p q r : Int} (hN : 0 < N) (hM : 1 ≤ M) (hM2 : 1 ≤ M2) (hE : 0 ≤ E) (hu : 1 ≤ u) (hv : 1 ≤ v) (hp : Sq (B * B * u * (N * N)) p) (hq : Sq (C * C * v * (N * N)) q)
    (hr : Sq (2 * (A * B) * (2 * (A * B)) * u * (N * N)) r) (hA1 : A ≤ M) (hA2 : -A ≤ M) (hpM : p + 1 ≤ M * N) (hqM : q + 1 ≤ M * N)
    (hP1 : A * A + B * B * u - C * C * v ≤ M2) (hP2 : -(A * A + B * B * u - C * C * v) ≤ M2) (hrM : r + 1 ≤ M2 * N)
    (hN1 : 2 * M * (E + 1) ≤ N) (hN2 : 2 * M2 * (3 * M * E + 4 * M + 2) ≤ N)
    (z1 : sg2 A B u = 0 → A = 0 ∧ B = 0) (z2 : sg2 A B u ≠ 0 → sgn C ≠ 0 → sg2 A B u ≠ sgn C → sg2 (A * A + B * B * u - C * C * v) (2 * (A * B)) u ≠ 0)
    (h : sg3 A B u C v ≠ 0) : E ≤ sg3 A B u C v * (A * N + sgn B * p + sgn C * q) := by
  have p0 := hp.p0
  have q0 := hq.p0
  have NN : 0 < N * N := Int.mul_pos hN hN
  have hNE : E ≤ N - 1 := by
    have := Int.mul_le_mul_of_nonneg_right (show 1 ≤ 2 * M by omega) (show 0 ≤ E + 1 by omega)
    omega
  have T1 := fun h => two hN hM hu hp hA1 hA2 hpM h
  have T2 : sg2 A B u ≠ 0 → E ≤ sg2 A B u * (A * N + sgn B * p) := fun h => by
    have := Int.le_trans hN1 (T1 h)
    have := Int.le_of_mul_le_mul_left this (show 0 < 2 * M by omega)
    omega
  unfold sg3 at h ⊢
  by_cases c1 : sg2 A B u = 0
  · obtain ⟨rfl, rfl⟩ := z1 c1
    rw [if_pos c1] at h ⊢
    have e : p = 0 := by
      rw [Int.zero_mul, Int.zero_mul, Int.zero_mul] at hp
      exact hp.zero
    have big : C ≠ 0 → N ≤ q := fun hB => hq.ge (by
      have := Int.mul_le_mul_of_nonneg_right (one_le_sq hB hv) (show 0 ≤ N * N by omega)
      omega)
    rw [e]
    rcases sgn_c C with ⟨b, f⟩ | ⟨b, f⟩ | ⟨b, f⟩
    · have := big (by omega); rw [f]; grind
    · have := big (by omega); rw [f]; grind
    · exact absurd f h
  · have t2 := T2 c1
    rw [if_neg c1] at h ⊢
    by_cases c2 : sgn C = 0 ∨ sg2 A B u = sgn C
    · rw [if_pos c2] at h ⊢
      have : 0 ≤ sg2 A B u * (sgn C * q) := by
        rcases c2 with c2 | c2
        · rw [c2]; grind
        · rw [c2]
          rcases sgn_c C with ⟨b, f⟩ | ⟨b, f⟩ | ⟨b, f⟩ <;> rw [f] <;> grind
      grind
    · rw [if_neg c2] at h ⊢
      have c3 : sgn C ≠ 0 := fun e => c2 (.inl e)
      have c4 : sg2 A B u ≠ sgn C := fun e => c2 (.inr e)
      have c5 := z2 c1 c3 c4
      obtain ⟨m1, m2⟩ := mixed hN hM hp hr hA1 hA2
      have Z := two hN hM2 hu hr hP1 hP2 hrM c5
      have Z2 := Int.le_trans hN2 Z
      have Z3 := Int.le_of_mul_le_mul_left Z2 (show 0 < 2 * M2 by omega)
      have bd := bounds (A := A) (B := B) hN hA1 hA2 p0 hpM (sg2 A B u) (sg2_r A B u) (sgn B) (by rcases sgn_c B with ⟨b, f⟩ | ⟨b, f⟩ | ⟨b, f⟩ <;> rw [f] <;> simp)
      have sB : sgn B * sgn B * (p * p) = p * p := by
        rcases sgn_c B with ⟨b, f⟩ | ⟨b, f⟩ | ⟨b, f⟩
        · rw [f]; grind
        · rw [f]; grind
        · rw [b, Int.zero_mul, Int.zero_mul, Int.zero_mul] at hp
          rw [hp.zero]; grind
      have e1 := hp.lo
      have e2 := hp.hi
      have e3 := hq.lo
      have e4 := hq.hi
      have sC : sgn C = -(sg2 A B u) := by
        rcases sg2_r A B u with k | k | k
        · rcases sgn_c C with ⟨b, f⟩ | ⟨b, f⟩ | ⟨b, f⟩ <;> omega
        · rcases sgn_c C with ⟨b, f⟩ | ⟨b, f⟩ | ⟨b, f⟩ <;> omega
        · exact absurd k c1
      have ss : sg2 A B u * sg2 A B u = 1 := by
        rcases sg2_r A B u with k | k | k
        · rw [k]; rfl
        · rw [k]; rfl
        · exact absurd k c1
      rw [sC]
      generalize hf : 2 * A * sgn B * p - sgn (2 * (A * B)) * r = f at m1 m2
      generalize hzz : (A * A + B * B * u - C * C * v) * N + sgn (2 * (A * B)) * r = z at Z3
      generalize hy : A * N + sgn B * p = y at bd t2
      have dif : y * y - q * q = N * z + N * f - (B * B * u * (N * N) - p * p) + (C * C * v * (N * N) - q * q) := by
        rw [← hy, ← hf, ← hzz]
        grind
      have nf1 : -(2 * (M * N)) ≤ N * f := by
        have := Int.mul_le_mul_of_nonneg_left m1 (show 0 ≤ N by omega)
        grind
      have nf2 : N * f ≤ 2 * (M * N) := by
        have := Int.mul_le_mul_of_nonneg_left m2 (show 0 ≤ N by omega)
        grind
      have d1 : y * y - q * q ≥ N * z - 4 * (M * N) := by grind
      have d2 : y * y - q * q ≤ N * z + 4 * (M * N) := by grind
      clear dif hf hzz hy
      generalize hs : sg2 A B u = s at *
      have yy : (s * y) * (s * y) = y * y := by
        have : (s * y) * (s * y) = s * s * (y * y) := by grind
        rw [this, ss, Int.one_mul]
      generalize hsy : s * y = w at *
      have w0 : 0 ≤ w := by omega
      have key : ∀ a b : Int, 0 ≤ a → 0 ≤ b → a + b ≤ 3 * (M * N) → N * (3 * M * E + 1) ≤ a * a - b * b → E ≤ a - b := fun a b ha hb hab hh => by
        rcases Int.lt_or_le (a - b) E with c | c
        · have k1 : (a - b) * (a + b) ≤ E * (a + b) := Int.mul_le_mul_of_nonneg_right (by omega) (by omega)
          have k2 : E * (a + b) ≤ E * (3 * (M * N)) := Int.mul_le_mul_of_nonneg_left hab hE
          grind
        · exact c
      rcases sg2_r (A * A + B * B * u - C * C * v) (2 * (A * B)) u with k | k | k
      · rw [k] at Z3 ⊢
        have nz : N * (3 * M * E + 4 * M + 1) ≤ N * z := Int.mul_le_mul_of_nonneg_left (by omega) (by omega)
        have := key w q w0 q0 (by omega) (by rw [yy]; grind)
        grind
      · rw [k] at Z3 ⊢
        have nz : N * z ≤ N * (-(3 * M * E + 4 * M + 1)) := Int.mul_le_mul_of_nonneg_left (by omega) (by omega)
        have := key q w q0 w0 (by omega) (by rw [yy]; grind)
        grind
      · exact absurd k c5
end Km
namespace K05
open PySem L2 Pw
section
open Km
inductive R_side : Gr
  | mk {n p : Nat} {s} (h : Sq (n : Int) (p : Int)) (hn : Sm 1000 (n : Int)) : R_side [.d (.int (n : Int))] s (.d (.int (p : Int))) s
theorem newton {n p f : Nat} (h : Sq (n : Int) (p : Int)) (hf : p ≤ f) (c : n < f * f) : p ≤ (f + n / f) / 2 ∧ (f + n / f) / 2 < f := by
  have f0 : 0 < f := by
    rcases Nat.eq_zero_or_pos f with z | z
    · subst z; omega
    · exact z
  have lo : p * p ≤ n := by have := h.lo; omega
  have a : 2 * p - f ≤ n / f := by
    rw [Nat.le_div_iff_mul_le f0]
    rcases Nat.lt_or_ge (2 * p) f with q | q
    · rw [show 2 * p - f = 0 by omega, Nat.zero_mul]
      exact Nat.zero_le _
    · obtain ⟨d, rfl⟩ : ∃ d, f = p + d := ⟨f - p, by omega⟩
      obtain ⟨e, rfl⟩ : ∃ e, p = d + e := ⟨p - d, by omega⟩
      rw [show 2 * (d + e) - (d + e + d) = e by omega]
      grind
  have b : n / f < f := (Nat.div_lt_iff_lt_mul f0).mpr c
  omega
theorem start_le {n p t : Nat} (h : Sq (n : Int) (p : Int)) (big : n < t * t) : p ≤ t := by
  have := h.lo
  have e : ((t * t : Nat) : Int) = (t : Int) * t := Int.natCast_mul t t
  have := lt_sq (a := (p : Int)) (b := (t : Int)) (by omega) (by omega)
  omega
theorem pow_1000 {n : Nat} (h : n < 2 ^ 1000) : n < 10 ^ 1000 := Nat.lt_of_lt_of_le h (Nat.pow_le_pow_left (by decide) 1000)
theorem newton_end {n p f : Nat} (h : Sq (n : Int) (p : Int)) (hf : p ≤ f) (c : f * f ≤ n) : f = p := by
  have := lt_sq (a := (f : Int)) (b := (p : Int) + 1) (by omega) (by have := h.hi; omega)
  omega
end
section
local macro_rules | `(tactic| walk_at "sd") => `(tactic| first | rfl | assumption | exact Nat.le_of_ble_eq_true rfl | decide | omega | (walk_at "sd2"))
local macro_rules | `(tactic| walk_at "sd2") => `(tactic| first | exact cm_sm (by assumption) (by assumption) | exact cf_sm (by assumption) (by assumption) | ((with_reducible apply gs); (walk_at "sd")) | exact cm_fm7 | exact cm_if | exact cm_l (by omega) (by omega) | exact cm_r (by omega) (by omega) | exact cf_c (by omega) (by omega))
local macro_rules | `(tactic| walk_at "isi") => `(tactic| with_reducible first | exact kit_int | exact kit_bool | exact kit_tuple | exact kit_list | exact kit_str)
local macro_rules | `(tactic| walk_at "und") => `(tactic| with_reducible repeat (first | exact Und.nil | apply Und.cons))
local macro_rules | `(tactic| walk_at "op") => `(tactic| (first
  | with_reducible exact o_add | with_reducible exact o_minus | with_reducible exact o_lt | with_reducible exact o_gt | with_reducible exact o_le | with_reducible exact o_ge | with_reducible exact o_neg
  | with_reducible exact o_isN | with_reducible exact o_isntN | with_reducible exact o_isB | with_reducible exact o_isntB | with_reducible exact o_neS | with_reducible exact o_eqS
  | with_reducible exact o_abs | with_reducible exact o_intB | with_reducible exact o_min2 | with_reducible exact o_max2 | with_reducible exact o_lenL | with_reducible exact o_lenT | with_reducible exact o_lenC | with_reducible exact o_gcd
  | with_reducible apply o_ixT | with_reducible apply o_ixL | with_reducible apply o_ixM | with_reducible apply o_ixS | with_reducible apply o_lenM
  | with_reducible apply o_mul | with_reducible apply o_fdiv | with_reducible apply o_mod | with_reducible apply o_pow | with_reducible apply o_eq | with_reducible apply o_ne | with_reducible apply o_catT | with_reducible apply o_repr | with_reducible apply o_all) <;> walk_at "sd")
local macro_rules | `(tactic| walk_at "opn") => `(tactic| (first
  | with_reducible apply o_cat | with_reducible apply o_repI | with_reducible exact o_listT | with_reducible exact o_listL) <;> walk_at "sd")
local macro_rules | `(tactic| walk_at "ea") => `(tactic| first
  | with_reducible exact eva_nil
  | ((with_reducible apply eva_cons); (walk_at "ev"); (walk_at "ea")))
local macro_rules | `(tactic| walk_at "call") => `(tactic| fail)
local macro_rules | `(tactic| walk_at "evn") => `(tactic| first
  | ((with_reducible apply evn_lstU); (walk_at "ea"); (walk_at "und"); (walk_at "sd"))
  | ((with_reducible apply evn_op); (walk_at "ev"); (walk_at "ev"); (walk_at "opn"))
  | ((with_reducible apply evn_cb); (walk_at "ea"); (walk_at "opn"))
  | ((with_reducible apply evn_call); (walk_at "ea"); (walk_at "call")))
local macro_rules | `(tactic| walk_at "ev") => `(tactic| first
  | with_reducible exact ev_int | with_reducible exact ev_bl | with_reducible exact ev_non | with_reducible exact ev_str
  | ((with_reducible apply ev_var); rfl)
  | ((with_reducible apply ev_op); (walk_at "ev"); (walk_at "ev"); (walk_at "op"))
  | ((with_reducible apply ev_un); (walk_at "ev"); (walk_at "op"))
  | ((with_reducible apply ev_call); (walk_at "ea"); (walk_at "call"))
  | ((with_reducible apply ev_callD); (walk_at "ea"); (intro _ _; exact rxs_1); (walk_at "call"))
  | ((with_reducible apply ev_callK); (walk_at "ea"); rfl; (intro _ _ _ hh; first | exact rxs_swap2 hh | exact rxs_same1 hh); (walk_at "call"))
  | ((with_reducible apply ev_isi); (walk_at "ev"); (walk_at "isi"))
  | ((with_reducible apply ev_isi2); (walk_at "ev"); (walk_at "isi"); (walk_at "isi"))
  | ((with_reducible apply ev_cb); (walk_at "ea"); (walk_at "op"))
  | ((with_reducible apply ev_tupU); (walk_at "ea"); (walk_at "und"); (walk_at "sd"))
  | ((with_reducible apply ev_new); (walk_at "evn"))
  | ((with_reducible apply ev_slT); (walk_at "ev"); (walk_at "eo"); (walk_at "eo"))
  | ((with_reducible apply ev_andV); (walk_at "ev"); (intro _; walk_at "ev"); (intro _; rfl))
  | ((with_reducible apply ev_orV); (walk_at "ev"); (intro _; walk_at "ev"); (intro _; rfl))
  | ((with_reducible apply ev_notV); (walk_at "ev")))
local macro_rules | `(tactic| walk_at "eo") => `(tactic| first
  | with_reducible exact eo_none
  | ((with_reducible apply eo_some); (walk_at "ev")))
local macro_rules | `(tactic| walk_at "et") => `(tactic| first
  | ((with_reducible apply et_test); (walk_at "ev"))
  | ((with_reducible apply et_B); (walk_at "ev"))
  | ((with_reducible apply et_not); (walk_at "et"))
  | ((with_reducible apply et_and); (walk_at "et"); (intro _; walk_at "et"); (intro _; rfl))
  | ((with_reducible apply et_or); (walk_at "et"); (intro _; walk_at "et"); (intro _; rfl)))
local macro_rules | `(tactic| walk_at "w") => `(tactic| first
  | (with_reducible apply w_seq)
  | (with_reducible apply w_next)
  | ((with_reducible apply w_asg); (walk_at "ev"))
  | ((with_reducible apply w_ret); (walk_at "ev"))
  | ((with_reducible apply w_drop); (walk_at "ev"))
  | ((with_reducible apply w_par); (walk_at "ea"))
  | ((with_reducible apply w_tup2); (walk_at "ev"))
  | ((with_reducible apply w_tup3); (walk_at "ev"))
  | ((with_reducible apply w_setI); (walk_at "ev"); (walk_at "ev"); (walk_at "ev"); (walk_at "sd"); (walk_at "sd"))
  | ((with_reducible apply w_if); (walk_at "et")))

variable {P : Program} {w : World} {K : Pw.Fg} {mg : Str → Option Value} {base : Heap} {f : Addr} {fd : FuncData} {ζ : ZA}
open Km in
theorem ok_side (Z : Zx K mg ζ) (G : Fun K "_law_side" "_law_side" s__law_side f fd) : FnOk P w K mg base CX0 1 f fd ["_law_many"] (spF K R_side) := by
  refine G.ok sc__law_side (spF_len fun xs s x s' h => by cases h; rfl) (fun cdv A outer s H vs Q E hr ⟨M, xs, st, x, st', h, So, rx, q⟩ => ?_)
  cases h with
  | @mk n p _ h hn =>
  refine ⟨_, (pss_cons (ps_set (i := 1) sc__law_side.nd rfl (.inl rfl) (pe_callTy cb_intS (by rfl) Z.z_int bt_int (pa_cons (pe_op (opk_plus (K := K)) (pe_str) (pe_op op_mulS (pe_str) (pe_op op_fdivA (pe_op (opk_plus (K := K)) (pe_callB (cbk_len (K := K)) (by rfl) Z.z_len bt_len (pa_cons (pe_callTy cb_strI (by rfl) Z.z_str bt_str (pa_cons (pv 0) pa_nil)) pa_nil)) (pe_int)) (pe_int)))) pa_nil)))
      (pss_cons (ps_while PassesOwn.never (pt_cmpR op_gtA (pe_op op_times (pv 1) (pv 1)) (pv 0) (nomark _)) (pss_one (ps_set (i := 1) sc__law_side.nd rfl (.inl rfl) (pe_op op_fdivA (pe_op (opk_plus (K := K)) (pv 1) (pe_op op_fdivA (pv 0) (pv 1))) (pe_int)))))
      (pss_one (ps_ret (pv 1))))), ?_⟩
  refine w_run So rx ?_
  try simp only [nox_K, cx_K, List.map_cons, List.map_nil]
  have q' := okr_0 q So.len
  obtain ⟨l1, l2, l3⟩ := num_len n
  have lm : (Str.ofString (toString ((n : Nat) : Int))).length ≤ 1000 := by
    exact l3 1000 (by decide) (pow_1000 (by have := hn.lt; rw [Int.natAbs_natCast] at this; exact this))
  obtain ⟨hh, eh⟩ : ∃ hh : Nat, hh = ((Str.ofString (toString ((n : Nat) : Int))).length + 1) / 2 := ⟨_, rfl⟩
  have h1 : 1 ≤ hh := by omega
  have h6 : hh ≤ 600 := by omega
  have ei : ((((Str.ofString (toString ((n : Nat) : Int))).length : Nat) : Int) + 1).fdiv 2 = (hh : Int) := by
    rw [Int.fdiv_eq_ediv_of_nonneg _ (by decide)]
    omega
  obtain ⟨z1, z2⟩ := one_zeros h1 h6
  have big : n < 10 ^ hh * 10 ^ hh := by
    rw [← Nat.pow_add]
    exact Nat.lt_of_lt_of_le l2 (Nat.pow_le_pow_right (by decide) (by omega))
  have start : p ≤ 10 ^ hh := start_le h big
  have ts : Sm 2000 ((10 ^ hh : Nat) : Int) := ⟨by
    rw [Int.natAbs_natCast]
    exact Nat.lt_of_le_of_lt (Nat.pow_le_pow_right (by decide) h6) (by decide)⟩
  walk_at "w"
  with_reducible apply w_asg (x := .d (.int ((10 ^ hh : Nat) : Int)))
  · with_reducible apply ev_cb
    · with_reducible apply eva_cons
      · with_reducible apply ev_op
        · exact ev_str
        · apply Ev.is
          · with_reducible apply ev_op
            · exact ev_str
            · with_reducible apply ev_op
              · with_reducible apply ev_op
                · with_reducible apply ev_cb
                  · with_reducible apply eva_cons
                    · with_reducible apply ev_cb
                      · walk_at "ea"
                      · exact o_strI (Nat.lt_of_lt_of_le (log_sm hn (by decide)) (by decide))
                    · exact eva_nil
                  · exact o_lenS (Nat.le_trans lm (by decide))
                · exact ev_int
                · exact o_add
              · exact ev_int
              · exact o_fdiv ⟨by decide, by decide⟩
            · rw [ei]
              exact o_mulS (PyProof.Rows.mulOk_of 16 1048576 (by decide) (by omega) (by omega) (by decide) (by decide))
          · rw [mul_zeros h1]
        · exact o_addS (by
            have := z2
            rw [PySem.Str.length_append] at this
            omega)
      · exact eva_nil
    · exact o_intS z1 z2
  walk_at "w"
  dsimp only
  refine w_while (fun k ρ s => s = st ∧ ρ = [some (.d (.int (n : Int))), some (.d (.int (k : Int)))] ∧ p ≤ k ∧ k ≤ 10 ^ hh) ⟨10 ^ hh, rfl, rfl, start, Nat.le_refl _⟩ ?_
  rintro k ρ s2 ⟨rfl, rfl, hp, hk⟩
  have ks : Sm 2000 (k : Int) := ts.le (by omega)
  have ck : CM (k : Int) (k : Int) := cm_sm ks ks
  refine ⟨decide ((n : Int) < (k : Int) * k), s2, ?_, ?_, ?_⟩
  · walk_at "et"
  · intro c N hN
    have c' : n < k * k := by
      have := of_decide_eq_true c
      omega
    have k0 : (k : Int) ≠ 0 := fun z => by
      have : k = 0 := by omega
      subst this
      omega
    obtain ⟨a1, a2⟩ := newton h hp c'
    have cf : CF (n : Int) (k : Int) := cf_sm k0 ks
    have cf2 : CF ((k : Int) + (n : Int).fdiv (k : Int)) 2 := ⟨by decide, by decide⟩
    walk_at "w"
    refine hN _ _ _ a2 ⟨rfl, ?_, a1, by omega⟩
    rw [fd_nat, ← Int.natCast_add, show (2 : Int) = ((2 : Nat) : Int) from rfl, fd_nat]
    rfl
  · intro c
    have c' : k * k ≤ n := by
      have := of_decide_eq_false c
      omega
    have := newton_end h hp c'
    subst this
    walk_at "w"
    exact q'
end
end K05
namespace K05
open PySem L2 Pw
open SX (S)
open Ks (ntx ftx numIn fracOr unm dig figs val rOk rtx sf FF frOk pairO progR)
open Km
theorem cut_down {m s : Nat} (h1 : 1 ≤ m) (hm : m ≤ 1000000) (hs : 1 ≤ s) (hd : s * s ∣ m) (hn : ∀ t, s < t → t ≤ 1000 → ¬ (t * t ∣ m)) : Prt m s (m / (s * s)) := Prt.of_down h1 hm hs hd hn
inductive R_lparts : Gr
  | mk {m a u : Nat} {s} (h : Prt m a u) (hm : m ≤ 1000000) : R_lparts [.d (.int (m : Int))] s (.d (q2 a u)) s
theorem strI_S (i : Int) : Str.ofString (toString i) = S (ntx i) := by
  unfold ntx
  by_cases c : i < 0
  · rw [if_pos c]
    obtain ⟨m, rfl⟩ : ∃ m : Nat, i = Int.negSucc m := by
      cases i with
      | ofNat n => exact absurd c (by simp)
      | negSucc m => exact ⟨m, rfl⟩
    have e1 : toString (Int.negSucc m) = "-" ++ toString ((((m + 1 : Nat)) : Int)) := rfl
    rw [e1]
    have e2 : ∀ s : String, Str.ofString ("-" ++ s) = S [45] ++ Str.ofString s := by
      intro s
      rw [Str.ofString_eq_toList, Str.ofString_eq_toList]
      simp
      show S (45 :: List.map Char.toNat s.toList) = S [45] ++ S (List.map Char.toNat s.toList)
      rw [SX.S_cat]
      rfl
    rw [e2, SX.num_S, SX.S_cat]
    rfl
  · rw [if_neg c]
    obtain ⟨m, rfl⟩ := Int.eq_ofNat_of_zero_le (show 0 ≤ i by omega)
    rw [SX.num_S, Int.natAbs_natCast]
theorem mul_b (a : Str) (b : Bool) : Txt.mul a (if b = true then 1 else 0) = if b = true then a else S [] := by
  cases b with
  | true => unfold Txt.mul; rfl
  | false => unfold Txt.mul; rfl
theorem mulOk_b {a : Str} {b : Bool} (h : a.length ≤ 1000000) : MulOk a (if b = true then 1 else 0) := PyProof.Rows.mulOk_of 1000000 16 h (by split <;> decide) (by split <;> decide) (by decide) (by decide)
inductive R_line : Gr
  | mk {a b : Int} {s} (hb : 0 < b) (h1 : a.natAbs < 10 ^ 60) (h2 : b.natAbs < 10 ^ 60) : R_line [.d (q2 a b)] s (.d (.str (S (ftx a b)))) s
inductive R_written : Gr
  | mk {a1 a2 b1 b2 u : Int} {s} (pa : 0 < a2) (pb : 0 < b2) (ga : a1 = 0 → a2 = 1) (gb : b1 = 0 → b2 = 1) (h1 : a1.natAbs < 10 ^ 60) (h2 : a2.natAbs < 10 ^ 60) (h3 : b1.natAbs < 10 ^ 60) (h4 : b2.natAbs < 10 ^ 60) (h5 : u.natAbs < 10 ^ 60) :
    R_written [.d (t3 (q2 a1 a2) (q2 b1 b2) (.int u))] s (.d (.str (S (rtx (a1, a2) (b1, b2) u)))) s
theorem log_60 {i : Int} (h : i.natAbs < 10 ^ 60) : i.natAbs.log2 < 1920 := Nat.lt_of_lt_of_le (Km.log_sm (n := 200) (i := i) ⟨Nat.lt_trans h (by decide)⟩ (by decide)) (by decide)
section
local macro_rules | `(tactic| walk_at "sd") => `(tactic| first | rfl | assumption | exact Nat.le_of_ble_eq_true rfl | decide | omega | (walk_at "sd2"))
local macro_rules | `(tactic| walk_at "sd2") => `(tactic| first | exact cm_sm (by assumption) (by assumption) | exact cf_sm (by assumption) (by assumption) | ((with_reducible apply gs); (walk_at "sd")) | exact cm_fm7 | exact cm_if | exact cm_l (by omega) (by omega) | exact cm_r (by omega) (by omega) | exact cf_c (by omega) (by omega))
local macro_rules | `(tactic| walk_at "isi") => `(tactic| with_reducible first | exact kit_int | exact kit_bool | exact kit_tuple | exact kit_list | exact kit_str)
local macro_rules | `(tactic| walk_at "und") => `(tactic| with_reducible repeat (first | exact Und.nil | apply Und.cons))
local macro_rules | `(tactic| walk_at "op") => `(tactic| (first
  | with_reducible exact o_add | with_reducible exact o_minus | with_reducible exact o_lt | with_reducible exact o_gt | with_reducible exact o_le | with_reducible exact o_ge | with_reducible exact o_neg
  | with_reducible exact o_isN | with_reducible exact o_isntN | with_reducible exact o_isB | with_reducible exact o_isntB | with_reducible exact o_neS | with_reducible exact o_eqS
  | with_reducible exact o_abs | with_reducible exact o_intB | with_reducible exact o_min2 | with_reducible exact o_max2 | with_reducible exact o_lenL | with_reducible exact o_lenT | with_reducible exact o_lenC | with_reducible exact o_gcd
  | with_reducible apply o_ixT | with_reducible apply o_ixL | with_reducible apply o_ixM | with_reducible apply o_ixS | with_reducible apply o_lenM
  | with_reducible apply o_mul | with_reducible apply o_fdiv | with_reducible apply o_mod | with_reducible apply o_pow | with_reducible apply o_eq | with_reducible apply o_ne | with_reducible apply o_catT | with_reducible apply o_repr | with_reducible apply o_all) <;> walk_at "sd")
local macro_rules | `(tactic| walk_at "opn") => `(tactic| (first
  | with_reducible apply o_cat | with_reducible apply o_repI | with_reducible exact o_listT | with_reducible exact o_listL) <;> walk_at "sd")
local macro_rules | `(tactic| walk_at "ea") => `(tactic| first
  | with_reducible exact eva_nil
  | ((with_reducible apply eva_cons); (walk_at "ev"); (walk_at "ea")))
local macro_rules | `(tactic| walk_at "call") => `(tactic| fail)
local macro_rules | `(tactic| walk_at "evn") => `(tactic| first
  | ((with_reducible apply evn_lstU); (walk_at "ea"); (walk_at "und"); (walk_at "sd"))
  | ((with_reducible apply evn_op); (walk_at "ev"); (walk_at "ev"); (walk_at "opn"))
  | ((with_reducible apply evn_cb); (walk_at "ea"); (walk_at "opn"))
  | ((with_reducible apply evn_call); (walk_at "ea"); (walk_at "call")))
local macro_rules | `(tactic| walk_at "ev") => `(tactic| first
  | with_reducible exact ev_int | with_reducible exact ev_bl | with_reducible exact ev_non | with_reducible exact ev_str
  | ((with_reducible apply ev_var); rfl)
  | ((with_reducible apply ev_op); (walk_at "ev"); (walk_at "ev"); (walk_at "op"))
  | ((with_reducible apply ev_un); (walk_at "ev"); (walk_at "op"))
  | ((with_reducible apply ev_call); (walk_at "ea"); (walk_at "call"))
  | ((with_reducible apply ev_callD); (walk_at "ea"); (intro _ _; exact rxs_1); (walk_at "call"))
  | ((with_reducible apply ev_callK); (walk_at "ea"); rfl; (intro _ _ _ hh; first | exact rxs_swap2 hh | exact rxs_same1 hh); (walk_at "call"))
  | ((with_reducible apply ev_isi); (walk_at "ev"); (walk_at "isi"))
  | ((with_reducible apply ev_isi2); (walk_at "ev"); (walk_at "isi"); (walk_at "isi"))
  | ((with_reducible apply ev_cb); (walk_at "ea"); (walk_at "op"))
  | ((with_reducible apply ev_tupU); (walk_at "ea"); (walk_at "und"); (walk_at "sd"))
  | ((with_reducible apply ev_new); (walk_at "evn"))
  | ((with_reducible apply ev_slT); (walk_at "ev"); (walk_at "eo"); (walk_at "eo"))
  | ((with_reducible apply ev_andV); (walk_at "ev"); (intro _; walk_at "ev"); (intro _; rfl))
  | ((with_reducible apply ev_orV); (walk_at "ev"); (intro _; walk_at "ev"); (intro _; rfl))
  | ((with_reducible apply ev_notV); (walk_at "ev")))
local macro_rules | `(tactic| walk_at "eo") => `(tactic| first
  | with_reducible exact eo_none
  | ((with_reducible apply eo_some); (walk_at "ev")))
local macro_rules | `(tactic| walk_at "et") => `(tactic| first
  | ((with_reducible apply et_test); (walk_at "ev"))
  | ((with_reducible apply et_B); (walk_at "ev"))
  | ((with_reducible apply et_not); (walk_at "et"))
  | ((with_reducible apply et_and); (walk_at "et"); (intro _; walk_at "et"); (intro _; rfl))
  | ((with_reducible apply et_or); (walk_at "et"); (intro _; walk_at "et"); (intro _; rfl)))
local macro_rules | `(tactic| walk_at "w") => `(tactic| first
  | (with_reducible apply w_seq)
  | (with_reducible apply w_next)
  | ((with_reducible apply w_asg); (walk_at "ev"))
  | ((with_reducible apply w_ret); (walk_at "ev"))
  | ((with_reducible apply w_drop); (walk_at "ev"))
  | ((with_reducible apply w_par); (walk_at "ea"))
  | ((with_reducible apply w_tup2); (walk_at "ev"))
  | ((with_reducible apply w_tup3); (walk_at "ev"))
  | ((with_reducible apply w_setI); (walk_at "ev"); (walk_at "ev"); (walk_at "ev"); (walk_at "sd"); (walk_at "sd"))
  | ((with_reducible apply w_if); (walk_at "et")))

variable {P : Program} {w : World} {K : Pw.Fg} {mg : Str → Option Value} {base : Heap} {f : Addr} {fd : FuncData} {ζ : ZA}
section
local macro_rules | `(tactic| walk_at "call") => `(tactic| assumption)
theorem ok_lparts (Z : Zx K mg ζ) (c__law_side : Cb P w K mg base "_law_side" 1 [] (spF K R_side)) (G : Fun K "_law_parts" "_law_parts" s__law_parts f fd) : FnOk P w K mg base CX0 2 f fd ["_law_many"] (spF K R_lparts) := by
  refine G.ok sc__law_parts (spF_len fun xs s x s' h => by cases h; rfl) (fun cdv A outer s H vs Q E hr ⟨M, xs, st, x, st', h, So, rx, q⟩ => ?_)
  refine ⟨_, (pss_cons (ps_for PassesOwn.never rfl (pi_range3 (by rfl) Z.z_range (pa_cons (pe_cb c__law_side (hr.mono (by decide)) (by rfl) (pa_cons (pv 0) pa_nil)) (pa_cons (pe_int) (pa_cons (pe_un un_negA (pe_int)) pa_nil)))) (pg_name (i := 1) sc__law_parts.nd rfl (Or.inl rfl)) (pss_one (ps_if (pt_cmpR (opk_eq (K := K) hr.units) (pe_op op_modA (pv 0) (pe_op op_times (pv 1) (pv 1))) (pe_int) (nomark _)) (pss_one (ps_ret (pe_tup (pa_cons (pv 1) (pa_cons (pe_op op_fdivA (pv 0) (pe_op op_times (pv 1) (pv 1))) pa_nil))))) pss_nil)))
      (pss_one (ps_ret (pe_tup (pa_cons (pe_int) (pa_cons (pv 0) pa_nil)))))), ?_⟩
  cases h with
  | @mk m a u _ h hm =>
    refine w_run So rx ?_
    try simp only [nox_K, cx_K, List.map_cons, List.map_nil]
    have q' := okr_0 q So.len
    have m1 : 1 ≤ m := by rw [← h.eq]; exact Nat.mul_pos (Nat.mul_pos h.s1 h.s1) h.u1
    have z3 : Sm 20 (m : Int) := smn 1000000 hm
    obtain ⟨p0, hp0⟩ := Km.sq_ex m
    obtain ⟨p, rfl⟩ := Int.eq_ofNat_of_zero_le hp0.p0
    have RS : R_side [.d (.int (m : Int))] st (.d (.int (p : Int))) st := .mk hp0 z3.mono
    have plo : p * p ≤ m := by have := hp0.lo; omega
    have phi : m < (p + 1) * (p + 1) := by
      have := hp0.hi
      have e : (((p + 1) * (p + 1) : Nat) : Int) = ((p : Int) + 1) * ((p : Int) + 1) := Int.natCast_mul (p + 1) (p + 1)
      omega
    have p1000 : p ≤ 1000 := by
      rcases Nat.lt_or_ge 1000 p with q | q
      · have := Nat.mul_le_mul (show 1001 ≤ p from q) (show 1001 ≤ p from q)
        omega
      · exact q
    have pos : 1 ≤ p := by
      rcases Nat.eq_zero_or_pos p with z | z
      · subst z; simp at phi; omega
      · exact z
    have up : ∀ t, p < t → ¬ (t * t ∣ m) := fun t ht hd => by
      have := Nat.le_of_dvd (by omega) hd
      have := Nat.mul_le_mul (show p + 1 ≤ t from ht) (show p + 1 ≤ t from ht)
      omega
    walk_at "w"
    refine w_forD (i0 := (p : Int)) (j0 := 1) (s1 := st) ?_ (by omega) (by omega) (by decide) (by decide) (fun i ρ s => s = st ∧ ρ.length = 2 ∧ ρ[0]? = some (some (.d (.int (m : Int)))) ∧ ∀ t, p - i < t → ¬ (t * t ∣ m)) ⟨rfl, rfl, rfl, fun t h1 => up t (by omega)⟩ ?_ ?_
    · exact eva_cons (ev_call (eva_cons (ev_var rfl) eva_nil) RS) (eva_cons ev_int (eva_cons (ev_un ev_int (o_neg (i := 1))) eva_nil))
    · rintro i ρ s2 N hi ⟨rfl, hl, h0, hn⟩ hN
      obtain ⟨x1, rfl⟩ : ∃ x1, ρ = [some (.d (.int (m : Int))), x1] := by
        match ρ, hl, h0 with
        | [_, x1], _, e => exact ⟨x1, by cases e; rfl⟩
      obtain ⟨t, et⟩ : ∃ t : Nat, (p : Int) - (i : Int) = (t : Int) := ⟨p - i, by omega⟩
      have t2 : 2 ≤ t := by omega
      have t3 : t ≤ 1000 := by omega
      rw [et]
      have z1 : Sm 20 (t : Int) := smn 1000 t3
      have z2 := z1.mul z1
      have tt : (t : Int) * t ≠ 0 := Int.mul_ne_zero (by omega) (by omega)
      show W K M H [] _ [some (.d (.int (m : Int))), some (.d (.int (t : Int)))] s2
      refine w_if (s1 := s2) (b := decide (m % (t * t) = 0)) (EvT.is (b := PyData.eqv (.int ((m : Int).fmod ((t : Int) * t))) (.int 0)) ?_ (by
            rw [eqv_ii, ← Int.natCast_mul, fm_nat]
            exact decide_eq_decide.mpr (by omega))) ?_ ?_
      · walk_at "et"
      · intro c
        have hd := Nat.dvd_of_mod_eq_zero (of_decide_eq_true c)
        obtain ⟨e1, e2⟩ := (cut_down m1 hm (by omega) hd (fun r r1 r2 => hn r (by omega))).uniq h
        walk_at "w"
        rw [← Int.natCast_mul, fd_nat, e1, ← e1]
        rw [e2, e1]
        exact q'
      · intro c
        have hd := of_decide_eq_false c
        walk_at "w"
        refine hN _ _ ⟨rfl, rfl, rfl, fun r r1 rd => ?_⟩
        rcases Nat.lt_or_ge (p - i) r with c2 | c2
        · exact hn r c2 rd
        · have e : r = t := by omega
          subst e
          exact hd (Nat.mod_eq_zero_of_dvd rd)
    · rintro ρ s2 ⟨rfl, hl, h0, hn⟩
      obtain ⟨x1, rfl⟩ : ∃ x1, ρ = [some (.d (.int (m : Int))), x1] := by
        match ρ, hl, h0 with
        | [_, x1], _, e => exact ⟨x1, by cases e; rfl⟩
      obtain ⟨e1, e2⟩ := (cut_down m1 hm (Nat.le_refl 1) ⟨m, by simp⟩ (fun r r1 r2 => hn r (by omega))).uniq h
      simp at e2
      subst e1 e2
      dsimp only
      walk_at "w"
      exact q'
theorem ok_line (Z : Zx K mg ζ) (G : Fun K "_law_line" "_law_line" s__law_line f fd) : FnOk P w K mg base CX0 1 f fd ["_law_one"] (spF K R_line) := by
  refine G.ok sc__law_line (spF_len fun xs s x s' h => by cases h; rfl) (fun cdv A outer s H vs Q E hr ⟨M, xs, st, x, st', h, So, rx, q⟩ => ?_)
  cases h with
  | @mk a b _ hb h1 h2 =>
  refine ⟨_, (pss_one (ps_ret (pe_op (opk_plus (K := K)) (pe_callTy cb_strI (by rfl) Z.z_str bt_str (pa_cons (pe_ix (ixk (K := K)) (pv 0) (pe_int) (fun _ _ => rfl)) pa_nil)) (pe_op op_mulS (pe_op (opk_plus (K := K)) (pe_str) (pe_callTy cb_strI (by rfl) Z.z_str bt_str (pa_cons (pe_ix (ixk (K := K)) (pv 0) (pe_int) (fun _ _ => rfl)) pa_nil))) (pe_callTy cb_int (by rfl) Z.z_int bt_int (pa_cons (pe_cmpR op_gtA (pe_ix (ixk (K := K)) (pv 0) (pe_int) (fun _ _ => rfl)) (pe_int) (nomark _)) pa_nil)))))), ?_⟩
  refine w_run So rx ?_
  try simp only [nox_K, cx_K, List.map_cons, List.map_nil]
  have q' := okr_0 q So.len
  have l1 := ntx_len h1
  have l2 := ntx_len h2
  have e : S (ftx a b) = S (ntx a) ++ (if decide (1 < b) = true then S [47] ++ S (ntx b) else S []) := by
    unfold ftx
    by_cases c : b = 1
    · rw [if_pos c, if_neg (by simp; omega), SX.S_cat, List.append_nil]
    · rw [if_neg c, if_pos (by simp; omega), SX.S_cat, SX.S_cat]; rfl
  rw [e] at q'
  have ls : (S [47] ++ S (ntx b)).length ≤ 70 := by rw [SX.S_cat, len_S]; simp; omega
  refine w_ret (s1 := st) (ev_op (Ev.is (ev_cb (eva_cons (ev_op (ev_var rfl) ev_int (o_ixT rfl)) eva_nil) (o_strI (log_60 h1))) (by rw [strI_S])) (Ev.is (ev_op (ev_op (ev_sS (l := [47]) (by decide +kernel)) (Ev.is (ev_cb (eva_cons (ev_op (ev_var rfl) ev_int (o_ixT rfl)) eva_nil) (o_strI (log_60 h2))) (by rw [strI_S])) (o_addS (by rw [len_S, len_S]; simp; omega))) (ev_cb (eva_cons (ev_op (ev_op (ev_var rfl) ev_int (o_ixT rfl)) ev_int o_gt) eva_nil) o_intB) (o_mulS (mulOk_b (by omega)))) (by rw [mul_b])) (o_addS ?_)) q'
  split
  · rw [len_S]; omega
  · rw [len_S, len_S]; simp; omega
theorem ok_written (Z : Zx K mg ζ) (c__law_line : Cb P w K mg base "_law_line" 1 [] (spF K R_line)) (G : Fun K "_law_written" "_law_written" s__law_written f fd) : FnOk P w K mg base CX0 2 f fd ["_law_main"] (spF K R_written) := by
  refine G.ok sc__law_written (spF_len fun xs s x s' h => by cases h; rfl) (fun cdv A outer s H vs Q E hr ⟨M, xs, st, x, st', h, So, rx, q⟩ => ?_)
  cases h with
  | @mk a1 a2 b1 b2 u _ pa pb ga gb h1 h2 h3 h4 h5 =>
  refine ⟨_, (pss_cons (ps_asg (pv 0) (pgk_tup (K := K) 3 (by rfl) (pgs_cons (pg_name (i := 1) sc__law_written.nd rfl (Or.inl rfl)) (pgs_cons (pg_name (i := 2) sc__law_written.nd rfl (Or.inl rfl)) (pgs_cons (pg_name (i := 3) sc__law_written.nd rfl (Or.inl rfl)) pgs_nil)))))
      (pss_cons (ps_if (pt_cmpR (opk_eq (K := K) hr.units) (pe_ix (ixk (K := K)) (pv 2) (pe_int) (fun _ _ => rfl)) (pe_int) (nomark _)) (pss_one (ps_ret (pe_cb c__law_line (hr.mono (by decide)) (by rfl) (pa_cons (pv 1) pa_nil)))) pss_nil)
      (pss_one (ps_ret (pe_op (opk_plus (K := K)) (pe_op (opk_plus (K := K)) (pe_op (opk_plus (K := K)) (pe_op op_mulS (pe_op (opk_plus (K := K)) (pe_cb c__law_line (hr.mono (by decide)) (by rfl) (pa_cons (pv 1) pa_nil)) (pe_str)) (pe_callTy cb_int (by rfl) Z.z_int bt_int (pa_cons (pe_cmpR (opk_ne (K := K) hr.units) (pe_ix (ixk (K := K)) (pv 1) (pe_int) (fun _ _ => rfl)) (pe_int) (nomark _)) pa_nil))) (pe_cb c__law_line (hr.mono (by decide)) (by rfl) (pa_cons (pv 2) pa_nil))) (pe_str)) (pe_callTy cb_strI (by rfl) Z.z_str bt_str (pa_cons (pv 3) pa_nil))))))), ?_⟩
  refine w_run So rx ?_
  try simp only [nox_K, cx_K, List.map_cons, List.map_nil]
  have q' := okr_0 q So.len
  have TA : R_line [.d (q2 a1 a2)] st (.d (.str (S (ftx a1 a2)))) st := .mk pa h1 h2
  have TB : R_line [.d (q2 b1 b2)] st (.d (.str (S (ftx b1 b2)))) st := .mk pb h3 h4
  have l1 := ftx_len h1 h2
  have l2 := ftx_len h3 h4
  have l3 := ntx_len h5
  iterate 3 (walk_at "w")
  dsimp only [List.set]
  refine w_if (b := decide (b1 = 0)) (s1 := st) (EvT.is (et_test (ev_op (ev_op (ev_var rfl) ev_int (o_ixT rfl)) ev_int (o_eq rfl rfl))) eqv_ii) ?_ ?_
  · intro c
    have c := of_decide_eq_true c
    have e : rtx (a1, a2) (b1, b2) u = ftx a1 a2 := by unfold rtx; rw [if_pos (by rw [c, gb c])]
    rw [e] at q'
    exact w_ret (ev_call (eva_cons (ev_var rfl) eva_nil) TA) q'
  · intro c
    have c := of_decide_eq_false c
    have e : S (rtx (a1, a2) (b1, b2) u) = (if (!decide (a1 = 0)) = true then S (ftx a1 a2) ++ S [32] else S []) ++ S (ftx b1 b2) ++ S [114] ++ S (ntx u) := by
      unfold rtx
      rw [if_neg (fun z => c (by cases z; rfl))]
      by_cases z : a1 = 0
      · rw [if_pos (by rw [z, ga z]), if_neg (by simp [z]), SX.S_cat, SX.S_cat, SX.S_cat]; simp
      · rw [if_neg (fun y => z (by cases y; rfl)), if_pos (by simp [z]), SX.S_cat, SX.S_cat, SX.S_cat, SX.S_cat]; simp
    rw [e] at q'
    try dsimp only
    walk_at "w"
    have ls : (S (ftx a1 a2) ++ S [32]).length ≤ 201 := by rw [SX.S_cat, len_S]; simp; omega
    have lx : (if (!decide (a1 = 0)) = true then S (ftx a1 a2) ++ S [32] else S []).length ≤ 201 := by
      split
      · exact ls
      · rw [len_S]; simp
    have E1 : ∀ {a b : Str}, (a ++ b).length = a.length + b.length := fun {a b} => PySem.Str.length_append a b
    have lb : (S (ftx b1 b2)).length ≤ 200 := by rw [len_S]; exact l2
    have lr : (S [114]).length = 1 := rfl
    have lu : (S (ntx u)).length ≤ 61 := by rw [len_S]; exact l3
    refine w_ret (s1 := st) (ev_op (ev_op (ev_op (Ev.is (ev_op (ev_op (ev_call (eva_cons (ev_var rfl) eva_nil) TA) (ev_sS (l := [32]) (by decide +kernel)) (o_addS (by rw [len_S, len_S]; simp; omega))) (ev_cb (eva_cons (Ev.is (ev_op (ev_op (ev_var rfl) ev_int (o_ixT rfl)) ev_int (o_ne rfl rfl)) (by rw [eqv_ii])) eva_nil) o_intB) (o_mulS (mulOk_b (by omega)))) (by rw [mul_b])) (ev_call (eva_cons (ev_var rfl) eva_nil) TB) (o_addS (by omega))) (ev_sS (l := [114]) (by decide +kernel)) (o_addS (by rw [E1]; omega))) (Ev.is (ev_cb (eva_cons (ev_var rfl) eva_nil) (o_strI (log_60 h5))) (by rw [strI_S])) (o_addS (by rw [E1, E1]; omega))) q'
end
end
end K05
namespace Ks
open PySem PySem.Builtin PySem.Builtin.Str SX
/-- what strip leaves -/
theorem strip_S (l : List Nat) (w : Str) : ∃ r, Txt.stripChars (S l) w = S r ∧ (l.all (· < 128) = true → r.all (· < 128) = true) := by
  unfold Txt.stripChars Txt.stripBy
  split
  · exact ⟨l, rfl, id⟩
  · unfold stripped
    rw [sub_S]
    refine ⟨_, rfl, fun h => ?_⟩
    rw [List.all_eq_true] at h ⊢
    exact fun c hc => h c (List.mem_of_mem_drop (List.mem_of_mem_take hc))
end Ks
namespace K05
open PySem L2 Pw
open SX (S)
open Ks (ntx ftx numIn fracOr unm dig figs val rOk rtx sf FF frOk pairO progR readF readB bel canon splt isDg)
open Km
def oM : Option Nat → PyData
  | none => .none
  | some n => .int (n : Int)
theorem opk_in {X : Cx} {K : Fg} (hK : X.K = K := by rfl) : OpR X (compareOp .In) (rIn K false) := hK ▸ op_in_seq
def oV : Option Nat → V
  | none => .non
  | some n => .int (n : Int)
theorem at_oM {K : Fg} {H : Hp} : ∀ {vs : List V} {ps : List (Option Nat)}, AtAll K H vs (ps.map oM) → vs = ps.map oV
  | _, [], .nil => rfl
  | _, none :: ps, .cons .non t => congrArg (V.non :: ·) (at_oM t)
  | _, some n :: ps, .cons (.int _) t => congrArg (V.int n :: ·) (at_oM t)
theorem flat_oV : ∀ ps : List (Option Nat), (ps.map oV).all flatV = true
  | [] => rfl
  | none :: ps => flat_oV ps
  | some n :: ps => flat_oV ps
theorem in_oV : ∀ ps : List (Option Nat), inV .non (ps.map oV) = ps.any (·.isNone)
  | [] => rfl
  | none :: ps => rfl
  | some n :: ps => in_oV ps
theorem o_noneIn {K : Fg} {s : Sto} {ps : List (Option Nat)} : Op2 K (rIn K false) (.d .none) (.d (.list (ps.map oM))) s (.d (.bool (ps.any (·.isNone)))) s := fun M H v w So r1 r2 Q q => by
  cases r1
  cases r2 with
  | lst h a =>
    have e := at_oM a
    subst e
    refine ⟨_, _, rfl, .inl (SqL.of (hid_some h).2), rfl, flat_oV ps, ?_⟩
    show Q (.bl (inV .non (ps.map oV))) H
    rw [in_oV]
    exact q.here So (.bl _)
theorem splt_mem {c : Nat} : ∀ {l p : List Nat}, p ∈ splt c l → (∀ x ∈ p, x ∈ l) ∧ p.length ≤ l.length
  | [], p, h => by
    have : p = [] := by simpa [splt] using h
    subst this
    exact ⟨fun x hx => hx, Nat.le_refl _⟩
  | y :: r, p, h => by
    unfold splt at h
    split at h
    · rcases List.mem_cons.mp h with e | e
      · subst e; exact ⟨fun x hx => absurd hx (by simp), Nat.zero_le _⟩
      · obtain ⟨h1, h2⟩ := splt_mem e
        exact ⟨fun x hx => List.mem_cons_of_mem _ (h1 x hx), by simp; omega⟩
    · split at h
      · rename_i a b e
        rcases List.mem_cons.mp h with z | z
        · subst z
          obtain ⟨h1, h2⟩ := splt_mem (c := c) (l := r) (p := a) (by rw [e]; exact List.mem_cons_self ..)
          exact ⟨fun x hx => by
            rcases List.mem_cons.mp hx with q | q
            · rw [q]; exact List.mem_cons_self ..
            · exact List.mem_cons_of_mem _ (h1 x q), by simp; omega⟩
        · obtain ⟨h1, h2⟩ := splt_mem (c := c) (l := r) (p := p) (by rw [e]; exact List.mem_cons_of_mem _ z)
          exact ⟨fun x hx => List.mem_cons_of_mem _ (h1 x hx), by simp; omega⟩
      · have : p = [y] := by simpa using h
        subst this
        exact ⟨fun x hx => by rw [List.mem_singleton.mp hx]; exact List.mem_cons_self .., by simp⟩
theorem splt_len (c : Nat) : ∀ l : List Nat, (splt c l).length ≤ l.length + 1
  | [] => by simp [splt]
  | x :: r => by
    have := splt_len c r
    unfold splt
    split
    · simp; omega
    · split
      · rename_i a b e
        rw [e] at this
        simp at this ⊢
        omega
      · simp
theorem asc_splt {c : Nat} {l p : List Nat} (h : asc l) (hp : p ∈ splt c l) : asc p := by
  unfold asc at h ⊢
  rw [List.all_eq_true] at h ⊢
  exact fun x hx => h x ((splt_mem hp).1 x hx)
theorem drop_bel (l : List Nat) : l.drop (if bel l = true then 1 else 0) = unm l := by
  by_cases c : l.head? = some 45
  · obtain ⟨r, rfl⟩ := Ks.head45 c
    rfl
  · rw [Ks.unm_no c, show bel l = false from decide_eq_false c]
    rfl
theorem take_bel (l : List Nat) : decide (l.take 1 = [45]) = bel l := by
  unfold bel
  cases l with
  | nil => rfl
  | cons x r => simp
inductive R_figs : Gr
  | mk {l s} (h : asc l) (hz : l.length ≤ 600) : R_figs [.d (.str (S l))] s (.d (oM (figs l))) s
inductive R_rfrac : Gr
  | mk {l s} (h : asc l) (hz : l.length ≤ 100) : R_rfrac [.d (.str (S l))] s (.d (oF (readF l))) s
theorem figs_sm {l : List Nat} {n : Nat} (h : figs l = some n) (hz : l.length ≤ 100) : Sm 400 (n : Int) := by
  have e := Ks.figs_back h
  rw [e] at hz
  refine ⟨?_⟩
  rw [Int.natAbs_natCast]
  rcases Nat.lt_or_ge n (10 ^ 100) with c | c
  · exact Nat.lt_trans c (by decide)
  · have := PyProof.Rows.digits10_ge c
    unfold TL.numL at hz
    rw [List.length_map] at hz
    omega
section
local macro_rules | `(tactic| walk_at "sd") => `(tactic| first | rfl | assumption | exact Nat.le_of_ble_eq_true rfl | decide | omega | (walk_at "sd2"))
local macro_rules | `(tactic| walk_at "sd2") => `(tactic| first | exact cm_sm (by assumption) (by assumption) | exact cf_sm (by assumption) (by assumption) | ((with_reducible apply gs); (walk_at "sd")) | exact cm_fm7 | exact cm_if | exact cm_l (by omega) (by omega) | exact cm_r (by omega) (by omega) | exact cf_c (by omega) (by omega))
local macro_rules | `(tactic| walk_at "isi") => `(tactic| with_reducible first | exact kit_int | exact kit_bool | exact kit_tuple | exact kit_list | exact kit_str)
local macro_rules | `(tactic| walk_at "und") => `(tactic| with_reducible repeat (first | exact Und.nil | apply Und.cons))
local macro_rules | `(tactic| walk_at "op") => `(tactic| (first
  | with_reducible exact o_add | with_reducible exact o_minus | with_reducible exact o_lt | with_reducible exact o_gt | with_reducible exact o_le | with_reducible exact o_ge | with_reducible exact o_neg
  | with_reducible exact o_isN | with_reducible exact o_isntN | with_reducible exact o_isB | with_reducible exact o_isntB | with_reducible exact o_neS | with_reducible exact o_eqS
  | with_reducible exact o_abs | with_reducible exact o_intB | with_reducible exact o_min2 | with_reducible exact o_max2 | with_reducible exact o_lenL | with_reducible exact o_lenT | with_reducible exact o_lenC | with_reducible exact o_gcd
  | with_reducible apply o_ixT | with_reducible apply o_ixL | with_reducible apply o_ixM | with_reducible apply o_ixS | with_reducible apply o_lenM
  | with_reducible apply o_mul | with_reducible apply o_fdiv | with_reducible apply o_mod | with_reducible apply o_pow | with_reducible apply o_eq | with_reducible apply o_ne | with_reducible apply o_catT | with_reducible apply o_repr | with_reducible apply o_all) <;> walk_at "sd")
local macro_rules | `(tactic| walk_at "opn") => `(tactic| (first
  | with_reducible apply o_cat | with_reducible apply o_repI | with_reducible exact o_listT | with_reducible exact o_listL) <;> walk_at "sd")
local macro_rules | `(tactic| walk_at "ea") => `(tactic| first
  | with_reducible exact eva_nil
  | ((with_reducible apply eva_cons); (walk_at "ev"); (walk_at "ea")))
local macro_rules | `(tactic| walk_at "call") => `(tactic| fail)
local macro_rules | `(tactic| walk_at "evn") => `(tactic| first
  | ((with_reducible apply evn_lstU); (walk_at "ea"); (walk_at "und"); (walk_at "sd"))
  | ((with_reducible apply evn_op); (walk_at "ev"); (walk_at "ev"); (walk_at "opn"))
  | ((with_reducible apply evn_cb); (walk_at "ea"); (walk_at "opn"))
  | ((with_reducible apply evn_call); (walk_at "ea"); (walk_at "call")))
local macro_rules | `(tactic| walk_at "ev") => `(tactic| first
  | with_reducible exact ev_int | with_reducible exact ev_bl | with_reducible exact ev_non | with_reducible exact ev_str
  | ((with_reducible apply ev_var); rfl)
  | ((with_reducible apply ev_op); (walk_at "ev"); (walk_at "ev"); (walk_at "op"))
  | ((with_reducible apply ev_un); (walk_at "ev"); (walk_at "op"))
  | ((with_reducible apply ev_call); (walk_at "ea"); (walk_at "call"))
  | ((with_reducible apply ev_callD); (walk_at "ea"); (intro _ _; exact rxs_1); (walk_at "call"))
  | ((with_reducible apply ev_callK); (walk_at "ea"); rfl; (intro _ _ _ hh; first | exact rxs_swap2 hh | exact rxs_same1 hh); (walk_at "call"))
  | ((with_reducible apply ev_isi); (walk_at "ev"); (walk_at "isi"))
  | ((with_reducible apply ev_isi2); (walk_at "ev"); (walk_at "isi"); (walk_at "isi"))
  | ((with_reducible apply ev_cb); (walk_at "ea"); (walk_at "op"))
  | ((with_reducible apply ev_tupU); (walk_at "ea"); (walk_at "und"); (walk_at "sd"))
  | ((with_reducible apply ev_new); (walk_at "evn"))
  | ((with_reducible apply ev_slT); (walk_at "ev"); (walk_at "eo"); (walk_at "eo"))
  | ((with_reducible apply ev_andV); (walk_at "ev"); (intro _; walk_at "ev"); (intro _; rfl))
  | ((with_reducible apply ev_orV); (walk_at "ev"); (intro _; walk_at "ev"); (intro _; rfl))
  | ((with_reducible apply ev_notV); (walk_at "ev")))
local macro_rules | `(tactic| walk_at "eo") => `(tactic| first
  | with_reducible exact eo_none
  | ((with_reducible apply eo_some); (walk_at "ev")))
local macro_rules | `(tactic| walk_at "et") => `(tactic| first
  | ((with_reducible apply et_test); (walk_at "ev"))
  | ((with_reducible apply et_B); (walk_at "ev"))
  | ((with_reducible apply et_not); (walk_at "et"))
  | ((with_reducible apply et_and); (walk_at "et"); (intro _; walk_at "et"); (intro _; rfl))
  | ((with_reducible apply et_or); (walk_at "et"); (intro _; walk_at "et"); (intro _; rfl)))
local macro_rules | `(tactic| walk_at "w") => `(tactic| first
  | (with_reducible apply w_seq)
  | (with_reducible apply w_next)
  | ((with_reducible apply w_asg); (walk_at "ev"))
  | ((with_reducible apply w_ret); (walk_at "ev"))
  | ((with_reducible apply w_drop); (walk_at "ev"))
  | ((with_reducible apply w_par); (walk_at "ea"))
  | ((with_reducible apply w_tup2); (walk_at "ev"))
  | ((with_reducible apply w_tup3); (walk_at "ev"))
  | ((with_reducible apply w_setI); (walk_at "ev"); (walk_at "ev"); (walk_at "ev"); (walk_at "sd"); (walk_at "sd"))
  | ((with_reducible apply w_if); (walk_at "et")))

variable {P : Program} {w : World} {K : Pw.Fg} {mg : Str → Option Value} {base : Heap} {f : Addr} {fd : FuncData} {ζ : ZA}
section
local macro_rules | `(tactic| walk_at "call") => `(tactic| assumption)
theorem ok_figs (Z : Zx K mg ζ) (G : Fun K "_law_figures" "_law_figures" s__law_figures f fd) : FnOk P w K mg base CX0 1 f fd ["_law_word"] (spF K R_figs) := by
  refine G.ok sc__law_figures (spF_len fun xs s x s' h => by cases h; rfl) (fun cdv A outer s H vs Q E hr ⟨M, xs, st, x, st', h, So, rx, q⟩ => ?_)
  cases h with
  | @mk l _ h hz =>
  refine ⟨_, (pss_cons (ps_if (PW.pt (pw_or (pt_cmpR (opk_eq (K := K) hr.units) (pv 0) (pe_str) (nomark _)) (pw_or (pt_cmpR (opk_ne (K := K) hr.units) (pe_bm PySem.F.plainAttrs_str PySem.F.slot_str_strip PySem.F.type_str_strip mt_stripChars (pv 0) (pa_cons (pe_str) pa_nil)) (pe_str) (nomark _)) (pw_or1 (PW.pt (pw_and (pt_cmpR op_gtA (pe_callB (cbk_len (K := K)) (by rfl) Z.z_len bt_len (pa_cons (pv 0) pa_nil)) (pe_int) (nomark _)) (pw_and1 (pt_cmpR (opk_eq (K := K) hr.units) (pe_ix (ixk (K := K)) (pv 0) (pe_int) (fun _ _ => rfl)) (pe_str) (nomark _))))))))) (pss_one (ps_ret (pe_non))) pss_nil)
      (pss_one (ps_ret (pe_callTy cb_intS (by rfl) Z.z_int bt_int (pa_cons (pv 0) pa_nil))))), ?_⟩
  refine w_run So rx ?_
  try simp only [nox_K, cx_K, List.map_cons, List.map_nil]
  have q' := okr_0 q So.len
  obtain ⟨r, er, ar⟩ := Ks.strip_S l (Str.ofString "0123456789")
  have a48 : asc [48] := rfl
  have hr0 : decide (r = []) = l.all isDg := by
    rw [← Ks.strip_cond l, ← show Str.ofString "0123456789" = S [48, 49, 50, 51, 52, 53, 54, 55, 56, 57] from by decide +kernel, er]
    refine decide_eq_decide.mpr ⟨fun z => by rw [z], fun z => SX.S_inj z⟩
  have cn : canon l = !(decide (l = []) || (!l.all isDg || (decide ((1 : Int) < (l.length : Nat)) && decide (l.head? = some 48)))) := by
    unfold canon dig
    cases l with
    | nil => rfl
    | cons x r =>
      cases r with
      | nil => rw [Bool.eq_iff_iff]; simp
      | cons y r =>
        rw [Bool.eq_iff_iff]
        simp
        omega
  walk_at "w"
  refine w_if (b := decide (l = []) || (!l.all isDg || (decide ((1 : Int) < (l.length : Nat)) && decide (l.head? = some 48)))) (s1 := st) (et_or (EvT.is (et_test (ev_op (ev_var rfl) (ev_sS (l := []) (by decide +kernel)) (o_eq (sh_S h) (sh_S rfl)))) eqv_S) (fun c1 => et_or (EvT.is (et_test (ev_op (Ev.is (ev_strip (ev_var rfl) (eva_cons ev_str eva_nil) (by omega)) (by rw [er])) (ev_sS (l := []) (by decide +kernel)) (o_ne (sh_S (ar h)) (sh_S rfl)))) (by rw [eqv_S, hr0])) (fun _ => et_and (EvT.is (et_test (ev_op (ev_cb (eva_cons (ev_var rfl) eva_nil) (o_lenS (by rw [len_S]; omega))) ev_int o_gt)) (by rw [len_S])) (fun c2 => ?_) (fun _ => rfl)) (fun _ => rfl)) (fun _ => rfl)) ?_ ?_
  · cases l with
    | nil => exact absurd (of_decide_eq_false c1) (by simp)
    | cons x t =>
      have hx : asc [x] := by rw [asc_cons] at h ⊢; exact ⟨h.1, rfl⟩
      exact EvT.is (et_test (ev_op (ev_op (ev_var rfl) ev_int (o_ixSg (c := x) (by simp [atI, ixN]) (by omega))) (ev_sS (l := [48]) (by decide +kernel)) (o_eq (sh_S hx) (sh_S a48)))) (by rw [eqv_S]; simp)
  · intro c
    rw [c] at cn
    have e : figs l = none := by unfold figs; rw [cn]; rfl
    rw [e] at q'
    exact w_ret ev_non q'
  · intro c
    rw [c] at cn
    have e : figs l = some (val l) := by unfold figs; rw [cn]; rfl
    rw [e] at q'
    try dsimp only
    walk_at "w"
    have hd : dig l = true := by unfold canon at cn; rw [Bool.not_false, Bool.and_eq_true] at cn; exact cn.1
    obtain ⟨h1, h2⟩ := Ks.dig_all hd
    exact w_ret (ev_cb (eva_cons (ev_var rfl) eva_nil) (o_intS (SX.int_S (by
      rw [List.all_eq_true]
      intro c hc
      have := h1 c hc
      simp
      omega) h2 (by omega)) (by rw [len_S]; omega))) q'
theorem ok_rfrac (Z : Zx K mg ζ) (c__law_figures : Cb P w K mg base "_law_figures" 1 [] (spF K R_figs)) (c__law_frac : Cb P w K mg base "_law_frac" 1 [] (spF K R_frac)) (G : Fun K "_law_read_frac" "_law_read_frac" s__law_read_frac f fd) : FnOk P w K mg base CX0 2 f fd ["_law_line_here"] (spF K R_rfrac) := by
  refine G.ok sc__law_read_frac (spF_len fun xs s x s' h => by cases h; rfl) (fun cdv A outer s H vs Q E hr ⟨M, xs, st, x, st', h, So, rx, q⟩ => ?_)
  cases h with
  | @mk l _ h hz =>
  refine ⟨_, (pss_cons (ps_set (i := 1) sc__law_read_frac.nd rfl (.inl rfl) (pe_cmpR (opk_eq (K := K) hr.units) (pe_slice sl_str (pv 0) po_none (po_some (pe_int))) (pe_str) (nomark _)))
      (pss_cons (ps_setLc (i := 2) rfl sc__law_read_frac.nd rfl rfl (sw_true rfl rfl rfl (by decide +kernel)) (own := [("_law_part", 4)]) (pik_list (K := K) (pe_bm PySem.F.plainAttrs_str PySem.F.slot_str_split PySem.F.type_str_split mt_split (pe_slice sl_str (pv 0) (po_some (pe_callTy cb_int (by rfl) Z.z_int bt_int (pa_cons (pv 1) pa_nil))) po_none) (pa_cons (pe_str) pa_nil))) (blkOk_by (own := [("_law_part", 4)]) (N := N__law_read_frac) (sc := defScope s__law_read_frac) (by decide +kernel)) (fun _ _ _ _ _ => (pg_name (i := 4) sc__law_read_frac.nd rfl (Or.inl rfl))) (fun _ _ _ _ _ => pts_nil) (fun _ _ _ _ _ => pe_cb c__law_figures (hr.mono (by decide)) (by rfl) (pa_cons (pv 4) pa_nil)))
      (pss_cons (ps_if (PW.pt (pw_or (pt_cmpR op_gtA (pe_callB (cbk_len (K := K)) (by rfl) Z.z_len bt_len (pa_cons (pv 2) pa_nil)) (pe_int) (nomark _)) (pw_or (pt_cmpR (opk_in (K := K)) (pe_non) (pv 2) (by rfl)) (pw_or1 (PW.pt (pw_and (pt_val (pv 1)) (pw_and1 (pt_cmpR (opk_eq (K := K) hr.units) (pe_ix (ixk (K := K)) (pv 2) (pe_int) (fun _ _ => rfl)) (pe_int) (nomark _))))))))) (pss_one (ps_ret (pe_non))) pss_nil)
      (pss_cons (ps_set (i := 3) sc__law_read_frac.nd rfl (.inl rfl) (pe_ifExp (pt_cmpR (opk_eq (K := K) hr.units) (pe_callB (cbk_len (K := K)) (by rfl) Z.z_len bt_len (pa_cons (pv 2) pa_nil)) (pe_int) (nomark _)) (pe_ix (ixk (K := K)) (pv 2) (pe_int) (fun _ _ => rfl)) (pe_int)))
      (pss_cons (ps_if (PW.pt (pw_or (PW.pt (pw_and (pt_cmpR (opk_eq (K := K) hr.units) (pe_callB (cbk_len (K := K)) (by rfl) Z.z_len bt_len (pa_cons (pv 2) pa_nil)) (pe_int) (nomark _)) (pw_and1 (pt_cmpR op_ltA (pv 3) (pe_int) (nomark _))))) (pw_or1 (pt_cmpR (opk_ne (K := K) hr.units) (pe_cb c__law_frac (hr.mono (by decide)) (by rfl) (pa_cons (pe_ix (ixk (K := K)) (pv 2) (pe_int) (fun _ _ => rfl)) (pa_cons (pe_callB (cb_max2 rfl) (by rfl) Z.z_max bt_max (pa_cons (pe_int) (pa_cons (pv 3) pa_nil))) pa_nil))) (pe_tup (pa_cons (pe_ix (ixk (K := K)) (pv 2) (pe_int) (fun _ _ => rfl)) (pa_cons (pv 3) pa_nil))) (nomark _))))) (pss_one (ps_ret (pe_non))) pss_nil)
      (pss_one (ps_ret (pe_tup (pa_cons (pe_op op_times (pe_ix (ixk (K := K)) (pv 2) (pe_int) (fun _ _ => rfl)) (pe_op op_minus (pe_int) (pe_op op_times (pe_int) (pe_callTy cb_int (by rfl) Z.z_int bt_int (pa_cons (pv 1) pa_nil))))) (pa_cons (pv 3) pa_nil)))))))))), ?_⟩
  refine w_run So rx ?_
  try simp only [nox_K, cx_K, List.map_cons, List.map_nil]
  have q' := okr_0 q So.len
  have hu := asc_unm h
  have lu := unm_len l
  have a45 : asc [45] := rfl
  have at1 : asc (l.take 1) := by
    unfold asc at h ⊢
    rw [List.all_eq_true] at h ⊢
    exact fun c hc => h c (List.mem_of_mem_take hc)
  obtain ⟨ps, eps, hps⟩ : ∃ ps : List (List Nat), splt 47 (unm l) = ps ∧ ∀ p ∈ ps, asc p ∧ p.length ≤ 100 := ⟨_, rfl, fun p hp => ⟨asc_splt hu hp, by have := (splt_mem hp).2; omega⟩⟩
  have erd : readF l = readB (bel l) (ps.map figs) := by unfold readF; rw [eps]
  rw [erd] at q'
  have FG : ∀ (p : List Nat) (s : Sto), p ∈ ps → R_figs [.d (.str (S p))] s (.d (oM (figs p))) s := fun p s hp => .mk (hps p hp).1 (by have := (hps p hp).2; omega)
  walk_at "w"
  refine w_asg (x := .d (.bool (bel l))) (s1 := st) (Ev.is (ev_op (ev_slS (r := l.take 1) (ev_var rfl) eo_none (eo_some ev_int) (by omega) (cut_to l 1)) (ev_sS (l := [45]) (by decide +kernel)) (o_eq (sh_S at1) (sh_S a45))) (by rw [eqv_S, take_bel])) ?_
  dsimp only [List.set]
  walk_at "w"
  have ct : cutS (S l) (some (if bel l = true then 1 else 0)) none = S (unm l) := by
    have e1 : (if bel l = true then (1 : Int) else 0) = (((if bel l = true then 1 else 0) : Nat) : Int) := by split <;> rfl
    rw [e1, cut_from, drop_bel]
  have psl : ps.length ≤ 102 := by
    have := splt_len 47 (unm l)
    rw [eps] at this
    omega
  refine w_asg (x := .d (.list ((ps.map figs).map oM))) (s1 := st) ?_ ?_
  · refine ev_new ?_
    have SP := ev_split (K := K) (ρ := List.set (rho0 N__law_read_frac [.d (.str (S l))]) 1 (some (.d (.bool (bel l))))) (s := st) (s2 := st) (l := unm l) (c := 47) (ev_slS (te := tVar 0) (r := unm l) (ev_var rfl) (eo_some (te := tCB rInt (tCons (tVar 1) tNil)) (ev_cb (eva_cons (ev_var rfl) eva_nil) o_intB)) eo_none (by omega) ct) (eva_cons (ev_sS (l := [47]) (w := "/") (by decide +kernel)) eva_nil) (by omega) (by decide)
    rw [eps] at SP
    refine evn_lcL (S := fun _ => st) (ds := stl ps) (es := (ps.map figs).map oM) SP (by simp) (by simp; omega) ?_
    intro i d e h1 h2
    cases hp : ps[i]? with
    | none => rw [List.getElem?_map, hp] at h1; cases h1
    | some p =>
      rw [List.getElem?_map, hp] at h1
      rw [List.getElem?_map, List.getElem?_map, hp] at h2
      cases h1
      cases h2
      exact ev_call (eva_cons (ev_var rfl) eva_nil) (FG p _ (List.mem_of_getElem? hp))
  dsimp only [List.set]
  have fne : ps.map figs ≠ [] := fun z => Ks.splt_ne (c := 47) (unm l) (by rw [eps]; simpa using z)
  have fsm : ∀ n, some n ∈ ps.map figs → Sm 400 (n : Int) := fun n hn => by
    obtain ⟨p, hp, e⟩ := List.mem_map.mp hn
    exact figs_sm e (hps p hp).2
  have fll : (ps.map figs).length ≤ 102 := by rw [List.length_map]; exact psl
  generalize ps.map figs = fs at *
  have LN : ∀ (ρ : En), ρ[2]? = some (some (.d (.list (fs.map oM)))) → Ev K (tCB (rLen K) (tCons (tVar 2) tNil)) ρ st (.d (.int (fs.length : Nat))) st := fun ρ h => Ev.is (ev_cb (eva_cons (ev_var h) eva_nil) o_lenL) (by rw [List.length_map])
  walk_at "w"
  match fs, fne, q', fsm, fll, LN with
  | x :: y :: z :: t, _, q', _, fll, LN =>
    rw [Ks.three (z :: t) (by simp)] at q'
    refine w_if (b := true) (s1 := st) (et_or1 (EvT.is (et_test (ev_op (LN _ rfl) ev_int o_gt)) (by simp; omega))) (fun _ => w_ret ev_non q') (fun c => by cases c)
  | [none], _, q', _, _, LN =>
    refine w_if (b := true) (s1 := st) (EvT.is (b := false || true) (et_or (EvT.is (et_test (ev_op (LN _ rfl) ev_int o_gt)) rfl) (fun _ => et_or1 (et_test (ev_op ev_non (ev_var rfl) (o_noneIn (ps := [none]))))) (fun c => by cases c)) rfl) (fun _ => w_ret ev_non q') (fun c => by cases c)
  | [none, y], _, q', _, _, LN =>
    have q' : Okr K M H (.d .none) st Q := by cases y <;> exact q'
    refine w_if (b := true) (s1 := st) (EvT.is (b := false || true) (et_or (EvT.is (et_test (ev_op (LN _ rfl) ev_int o_gt)) rfl) (fun _ => et_or1 (et_test (ev_op ev_non (ev_var rfl) (o_noneIn (ps := [none, y]))))) (fun c => by cases c)) rfl) (fun _ => w_ret ev_non q') (fun c => by cases c)
  | [some x, none], _, q', _, _, LN =>
    refine w_if (b := true) (s1 := st) (EvT.is (b := false || true) (et_or (EvT.is (et_test (ev_op (LN _ rfl) ev_int o_gt)) rfl) (fun _ => et_or1 (et_test (ev_op ev_non (ev_var rfl) (o_noneIn (ps := [some x, none]))))) (fun c => by cases c)) rfl) (fun _ => w_ret ev_non q') (fun c => by cases c)
  | [some n], _, q', fsm, _, LN =>
    have sn : Sm 400 (n : Int) := fsm n (by simp)
    have q' : Okr K M H (.d (oF (if bel l = true ∧ n = 0 then none else some (if bel l = true then -(n : Int) else n, 1)))) st Q := q'
    refine w_if (b := false || (false || (bel l && decide (n = 0)))) (s1 := st) (et_or (EvT.is (et_test (ev_op (LN _ rfl) ev_int o_gt)) rfl) (fun _ => et_or (et_test (ev_op ev_non (ev_var rfl) (o_noneIn (ps := [some n])))) (fun _ => et_and (et_B (ev_var rfl)) (fun _ => EvT.is (et_test (ev_op (ev_op (ev_var rfl) ev_int (o_ixL rfl)) ev_int (o_eq rfl rfl))) (by show PyData.eqv (.int (n : Int)) (.int 0) = _; rw [eqv_ii]; exact decide_eq_decide.mpr (by omega))) (fun _ => rfl)) (fun _ => rfl)) (fun _ => rfl)) ?_ ?_
    · intro c
      rw [if_pos (by simpa using c)] at q'
      exact w_ret ev_non q'
    · intro c
      rw [if_neg (by simpa using c)] at q'
      try dsimp only
      walk_at "w"
      walk_at "w"
      refine w_asg (x := .d (.int 1)) (s1 := st) (ev_if (b := false) (EvT.is (et_test (ev_op (LN _ rfl) ev_int (o_eq rfl rfl))) rfl) (fun c => by cases c) (fun _ => ev_int)) ?_
      dsimp only [List.set]
      walk_at "w"
      have FR : R_frac [.d (.int (n : Int)), .d (.int 1)] st (.d (q2 (n : Int) 1)) st := by
        have := fr_mk (s := st) sn (Sm.of (n := 1) (i := 1) 1 (by decide)) (by decide : (1 : Int) ≠ 0)
        rw [lw1] at this
        exact this
      have bb : (if bel l = true then -(n : Int) else n) = (n : Int) * (1 - 2 * (if bel l = true then 1 else 0)) := by split <;> omega
      rw [bb] at q'
      have cm : CM (n : Int) (1 - 2 * (if bel l = true then 1 else 0)) := cm_r (by split <;> decide) (by split <;> decide)
      have cm2 : CM 2 (if bel l = true then 1 else 0) := cm_l (by decide) (by decide)
      refine w_if (b := false) (s1 := st) (EvT.is (b := false || false) (et_or (et_and0 (EvT.is (et_test (ev_op (LN _ rfl) ev_int (o_eq rfl rfl))) rfl)) (fun _ => EvT.is (et_test (ev_op (ev_call (eva_cons (ev_op (ev_var rfl) ev_int (o_ixL rfl)) (eva_cons (Ev.is (ev_cb (eva_cons ev_int (eva_cons (ev_var rfl) eva_nil)) o_max2) rfl) eva_nil)) FR) (ev_tupU (eva_cons (ev_op (ev_var rfl) ev_int (o_ixL rfl)) (eva_cons (ev_var rfl) eva_nil)) (.cons (.cons .nil)) (Nat.le_of_ble_eq_true rfl)) (o_ne sh2 sh2))) (by show (!PyData.eqv (q2 (n : Int) 1) (q2 (n : Int) 1)) = false; rw [eqv_q2]; simp)) (fun c => by cases c)) rfl) (fun c => by cases c) ?_
      intro _
      try dsimp only
      walk_at "w"
      exact w_ret (ev_tupU (eva_cons (ev_op (ev_op (ev_var rfl) ev_int (o_ixL rfl)) (ev_op ev_int (ev_op ev_int (ev_cb (eva_cons (ev_var rfl) eva_nil) o_intB) (o_mul cm2)) o_minus) (o_mul cm)) (eva_cons (ev_var rfl) eva_nil)) (.cons (.cons .nil)) (Nat.le_of_ble_eq_true rfl)) q'
  | [some n, some m], _, q', fsm, _, LN =>
    have sn : Sm 400 (n : Int) := fsm n (by simp)
    have sm' : Sm 400 (m : Int) := fsm m (by simp)
    have q' : Okr K M H (.d (oF (if (bel l = true ∧ n = 0) ∨ m < 2 ∨ Nat.gcd n m ≠ 1 then none else some (if bel l = true then -(n : Int) else n, (m : Int))))) st Q := q'
    refine w_if (b := false || (false || (bel l && decide (n = 0)))) (s1 := st) (et_or (EvT.is (et_test (ev_op (LN _ rfl) ev_int o_gt)) rfl) (fun _ => et_or (et_test (ev_op ev_non (ev_var rfl) (o_noneIn (ps := [some n, some m])))) (fun _ => et_and (et_B (ev_var rfl)) (fun _ => EvT.is (et_test (ev_op (ev_op (ev_var rfl) ev_int (o_ixL rfl)) ev_int (o_eq rfl rfl))) (by show PyData.eqv (.int (n : Int)) (.int 0) = _; rw [eqv_ii]; exact decide_eq_decide.mpr (by omega))) (fun _ => rfl)) (fun _ => rfl)) (fun _ => rfl)) ?_ ?_
    · intro c
      rw [if_pos (.inl (by simpa using c))] at q'
      exact w_ret ev_non q'
    · intro c
      have c0 : ¬ (bel l = true ∧ n = 0) := by simpa using c
      try dsimp only
      walk_at "w"
      walk_at "w"
      refine w_asg (x := .d (.int (m : Int))) (s1 := st) (ev_if (b := true) (EvT.is (et_test (ev_op (LN _ rfl) ev_int (o_eq rfl rfl))) rfl) (fun _ => ev_op (ev_var rfl) ev_int (o_ixL rfl)) (fun c => by cases c)) ?_
      dsimp only [List.set]
      walk_at "w"
      by_cases m2 : m < 2
      · rw [if_pos (.inr (.inl m2))] at q'
        refine w_if (b := true) (s1 := st) (et_or1 (EvT.is (b := true && true) (et_and (EvT.is (et_test (ev_op (LN _ rfl) ev_int (o_eq rfl rfl))) rfl) (fun _ => EvT.is (et_test (ev_op (ev_var rfl) ev_int o_lt)) (decide_eq_true (by omega))) (fun c => by cases c)) rfl)) (fun _ => w_ret ev_non q') (fun c => by cases c)
      · have km : (m : Int) ≠ 0 := by omega
        have FR : R_frac [.d (.int (n : Int)), .d (.int (m : Int))] st (.d (q2 (lwN (n : Int) m) (lwD (n : Int) m))) st := fr_mk sn sm' km
        have ls := lw_self (u := (n : Int)) (v := (m : Int)) (by omega)
        rw [Int.natAbs_natCast, Int.natAbs_natCast] at ls
        have eg : decide ((lwN (n : Int) m, lwD (n : Int) m) = ((n : Int), (m : Int))) = decide (Nat.gcd n m = 1) := decide_eq_decide.mpr ⟨fun z => ls.mp ⟨congrArg Prod.fst z, congrArg Prod.snd z⟩, fun z => by rw [(ls.mpr z).1, (ls.mpr z).2]⟩
        have mx : (if (m : Int) > 1 then (m : Int) else 1) = (m : Int) := if_pos (by omega)
        have bb : (if bel l = true then -(n : Int) else n) = (n : Int) * (1 - 2 * (if bel l = true then 1 else 0)) := by split <;> omega
        have cm : CM (n : Int) (1 - 2 * (if bel l = true then 1 else 0)) := cm_r (by split <;> decide) (by split <;> decide)
        have cm2 : CM 2 (if bel l = true then 1 else 0) := cm_l (by decide) (by decide)
        refine w_if (b := !decide (Nat.gcd n m = 1)) (s1 := st) (EvT.is (b := false || !decide (Nat.gcd n m = 1)) (et_or (EvT.is (b := true && false) (et_and (EvT.is (et_test (ev_op (LN _ rfl) ev_int (o_eq rfl rfl))) rfl) (fun _ => EvT.is (et_test (ev_op (ev_var rfl) ev_int o_lt)) (decide_eq_false (by omega))) (fun c => by cases c)) rfl) (fun _ => EvT.is (et_test (ev_op (ev_call (eva_cons (ev_op (ev_var rfl) ev_int (o_ixL rfl)) (eva_cons (Ev.is (ev_cb (eva_cons ev_int (eva_cons (ev_var rfl) eva_nil)) o_max2) (by rw [mx])) eva_nil)) FR) (ev_tupU (eva_cons (ev_op (ev_var rfl) ev_int (o_ixL rfl)) (eva_cons (ev_var rfl) eva_nil)) (.cons (.cons .nil)) (Nat.le_of_ble_eq_true rfl)) (o_ne sh2 sh2))) (by
          show (!PyData.eqv (q2 (lwN (n : Int) m) (lwD (n : Int) m)) (q2 (n : Int) (m : Int))) = _
          rw [eqv_q2, eg])) (fun c => by cases c)) rfl) ?_ ?_
        · intro c
          rw [if_pos (.inr (.inr (by simpa using c)))] at q'
          exact w_ret ev_non q'
        · intro c
          have g1 : Nat.gcd n m = 1 := by simpa using c
          rw [if_neg (fun z => z.elim c0 fun z => z.elim m2 fun z => z g1), bb] at q'
          try dsimp only
          walk_at "w"
          exact w_ret (ev_tupU (eva_cons (ev_op (ev_op (ev_var rfl) ev_int (o_ixL rfl)) (ev_op ev_int (ev_op ev_int (ev_cb (eva_cons (ev_var rfl) eva_nil) o_intB) (o_mul cm2)) o_minus) (o_mul cm)) (eva_cons (ev_var rfl) eva_nil)) (.cons (.cons .nil)) (Nat.le_of_ble_eq_true rfl)) q'
end
end
end K05
namespace K05
open PySem L2 Pw
open SX (S)
open Ks (ntx ftx numIn fracOr unm dig figs val rOk rtx sf FF frOk pairO progR readF readB bel canon splt isDg lawR bodyR)
open Km
def oL : Option (FF × FF × Int) → PyData
  | none => .none
  | some r => oR r
theorem splt_count (c : Nat) : ∀ l : List Nat, (splt c l).length = l.count c + 1
  | [] => by simp [splt]
  | x :: r => by
    have := splt_count c r
    unfold splt
    by_cases e : x = c
    · rw [if_pos e, List.length_cons, this, e, List.count_cons_self]
    · rw [if_neg e, List.count_cons_of_ne (by simpa using e)]
      split
      · rename_i a b e2
        rw [e2] at this
        simp at this ⊢
        omega
      · rename_i e2
        exact absurd e2 (Ks.splt_ne r)
noncomputable def lawW (ws : List (List Nat)) : Option (FF × FF × Int) := match ws with | [w] => bodyR false (some (0, 1)) w | [v, w] => if 114 ∈ v then none else bodyR true (readF v) w | _ => none
noncomputable def fin3 (two : Bool) (a b : Option FF) (u : Option Nat) : Option (FF × FF × Int) := match a, b, u with
  | some a, some b, some n => if n < 2 ∨ b.1 = 0 ∨ (two = true ∧ a.1 = 0) then none else if n > 1000000 ∨ sf n = false then none else some (a, b, (n : Int))
  | _, _, _ => none
theorem lawW_3 {x y z : List Nat} {t : List (List Nat)} : lawW (x :: y :: z :: t) = none := rfl
inductive R_read : Gr
  | mk {l s} (h : asc l) (hz : l.length ≤ 100) : R_read [.d (.str (S l))] s (.d (oL (lawR l))) s
theorem no_oF (x : Option FF) : isNo (oF x) = !x.isSome := by cases x <;> rfl
theorem no_oM (x : Option Nat) : isNo (oM x) = !x.isSome := by cases x <;> rfl
section
local macro_rules | `(tactic| walk_at "sd") => `(tactic| first | rfl | assumption | exact Nat.le_of_ble_eq_true rfl | decide | omega | (walk_at "sd2"))
local macro_rules | `(tactic| walk_at "sd2") => `(tactic| first | exact cm_sm (by assumption) (by assumption) | exact cf_sm (by assumption) (by assumption) | ((with_reducible apply gs); (walk_at "sd")) | exact cm_fm7 | exact cm_if | exact cm_l (by omega) (by omega) | exact cm_r (by omega) (by omega) | exact cf_c (by omega) (by omega))
local macro_rules | `(tactic| walk_at "isi") => `(tactic| with_reducible first | exact kit_int | exact kit_bool | exact kit_tuple | exact kit_list | exact kit_str)
local macro_rules | `(tactic| walk_at "und") => `(tactic| with_reducible repeat (first | exact Und.nil | apply Und.cons))
local macro_rules | `(tactic| walk_at "op") => `(tactic| (first
  | with_reducible exact o_add | with_reducible exact o_minus | with_reducible exact o_lt | with_reducible exact o_gt | with_reducible exact o_le | with_reducible exact o_ge | with_reducible exact o_neg
  | with_reducible exact o_isN | with_reducible exact o_isntN | with_reducible exact o_isB | with_reducible exact o_isntB | with_reducible exact o_neS | with_reducible exact o_eqS
  | with_reducible exact o_abs | with_reducible exact o_intB | with_reducible exact o_min2 | with_reducible exact o_max2 | with_reducible exact o_lenL | with_reducible exact o_lenT | with_reducible exact o_lenC | with_reducible exact o_gcd
  | with_reducible apply o_ixT | with_reducible apply o_ixL | with_reducible apply o_ixM | with_reducible apply o_ixS | with_reducible apply o_lenM
  | with_reducible apply o_mul | with_reducible apply o_fdiv | with_reducible apply o_mod | with_reducible apply o_pow | with_reducible apply o_eq | with_reducible apply o_ne | with_reducible apply o_catT | with_reducible apply o_repr | with_reducible apply o_all) <;> walk_at "sd")
local macro_rules | `(tactic| walk_at "opn") => `(tactic| (first
  | with_reducible apply o_cat | with_reducible apply o_repI | with_reducible exact o_listT | with_reducible exact o_listL) <;> walk_at "sd")
local macro_rules | `(tactic| walk_at "ea") => `(tactic| first
  | with_reducible exact eva_nil
  | ((with_reducible apply eva_cons); (walk_at "ev"); (walk_at "ea")))
local macro_rules | `(tactic| walk_at "call") => `(tactic| fail)
local macro_rules | `(tactic| walk_at "evn") => `(tactic| first
  | ((with_reducible apply evn_lstU); (walk_at "ea"); (walk_at "und"); (walk_at "sd"))
  | ((with_reducible apply evn_op); (walk_at "ev"); (walk_at "ev"); (walk_at "opn"))
  | ((with_reducible apply evn_cb); (walk_at "ea"); (walk_at "opn"))
  | ((with_reducible apply evn_call); (walk_at "ea"); (walk_at "call")))
local macro_rules | `(tactic| walk_at "ev") => `(tactic| first
  | with_reducible exact ev_int | with_reducible exact ev_bl | with_reducible exact ev_non | with_reducible exact ev_str
  | ((with_reducible apply ev_var); rfl)
  | ((with_reducible apply ev_op); (walk_at "ev"); (walk_at "ev"); (walk_at "op"))
  | ((with_reducible apply ev_un); (walk_at "ev"); (walk_at "op"))
  | ((with_reducible apply ev_call); (walk_at "ea"); (walk_at "call"))
  | ((with_reducible apply ev_callD); (walk_at "ea"); (intro _ _; exact rxs_1); (walk_at "call"))
  | ((with_reducible apply ev_callK); (walk_at "ea"); rfl; (intro _ _ _ hh; first | exact rxs_swap2 hh | exact rxs_same1 hh); (walk_at "call"))
  | ((with_reducible apply ev_isi); (walk_at "ev"); (walk_at "isi"))
  | ((with_reducible apply ev_isi2); (walk_at "ev"); (walk_at "isi"); (walk_at "isi"))
  | ((with_reducible apply ev_cb); (walk_at "ea"); (walk_at "op"))
  | ((with_reducible apply ev_tupU); (walk_at "ea"); (walk_at "und"); (walk_at "sd"))
  | ((with_reducible apply ev_new); (walk_at "evn"))
  | ((with_reducible apply ev_slT); (walk_at "ev"); (walk_at "eo"); (walk_at "eo"))
  | ((with_reducible apply ev_andV); (walk_at "ev"); (intro _; walk_at "ev"); (intro _; rfl))
  | ((with_reducible apply ev_orV); (walk_at "ev"); (intro _; walk_at "ev"); (intro _; rfl))
  | ((with_reducible apply ev_notV); (walk_at "ev")))
local macro_rules | `(tactic| walk_at "eo") => `(tactic| first
  | with_reducible exact eo_none
  | ((with_reducible apply eo_some); (walk_at "ev")))
local macro_rules | `(tactic| walk_at "et") => `(tactic| first
  | ((with_reducible apply et_test); (walk_at "ev"))
  | ((with_reducible apply et_B); (walk_at "ev"))
  | ((with_reducible apply et_not); (walk_at "et"))
  | ((with_reducible apply et_and); (walk_at "et"); (intro _; walk_at "et"); (intro _; rfl))
  | ((with_reducible apply et_or); (walk_at "et"); (intro _; walk_at "et"); (intro _; rfl)))
local macro_rules | `(tactic| walk_at "w") => `(tactic| first
  | (with_reducible apply w_seq)
  | (with_reducible apply w_next)
  | ((with_reducible apply w_asg); (walk_at "ev"))
  | ((with_reducible apply w_ret); (walk_at "ev"))
  | ((with_reducible apply w_drop); (walk_at "ev"))
  | ((with_reducible apply w_par); (walk_at "ea"))
  | ((with_reducible apply w_tup2); (walk_at "ev"))
  | ((with_reducible apply w_tup3); (walk_at "ev"))
  | ((with_reducible apply w_setI); (walk_at "ev"); (walk_at "ev"); (walk_at "ev"); (walk_at "sd"); (walk_at "sd"))
  | ((with_reducible apply w_if); (walk_at "et")))

variable {P : Program} {w : World} {K : Pw.Fg} {mg : Str → Option Value} {base : Heap} {f : Addr} {fd : FuncData} {ζ : ZA}
section
local macro_rules | `(tactic| walk_at "call") => `(tactic| assumption)
theorem ok_read (Z : Zx K mg ζ) (c__law_figures : Cb P w K mg base "_law_figures" 1 [] (spF K R_figs)) (c__law_read_frac : Cb P w K mg base "_law_read_frac" 2 [] (spF K R_rfrac)) (c__law_parts : Cb P w K mg base "_law_parts" 2 [] (spF K R_lparts)) (G : Fun K "_law_read" "_law_read" s__law_read f fd) : FnOk P w K mg base CX0 3 f fd ["_law_line_here"] (spF K R_read) := by
  refine G.ok sc__law_read (spF_len fun xs s x s' h => by cases h; rfl) (fun cdv A outer s H vs Q E hr ⟨M, xs, st, x, st', h, So, rx, q⟩ => ?_)
  cases h with
  | @mk l _ h hz =>
  refine ⟨_, (pss_cons (ps_if (pt_cmpR op_notInS (pe_str) (pv 0) (by rfl)) (pss_cons (ps_set (i := 1) sc__law_read.nd rfl (.inl rfl) (pe_cb c__law_read_frac (hr.mono (by decide)) (by rfl) (pa_cons (pv 0) pa_nil)))
      (pss_one (ps_ret (pe_ifExp (pt_cmpR op_is (pv 1) (pe_non) (nomark _)) (pe_non) (pe_tup (pa_cons (pv 1) (pa_cons (pe_tup (pa_cons (pe_int) (pa_cons (pe_int) pa_nil))) (pa_cons (pe_int) pa_nil)))))))) pss_nil)
      (pss_cons (ps_set (i := 2) sc__law_read.nd rfl (.inl rfl) (pe_bm PySem.F.plainAttrs_str PySem.F.slot_str_split PySem.F.type_str_split mt_split (pv 0) (pa_cons (pe_str) pa_nil)))
      (pss_cons (ps_if (PW.pt (pw_or (pt_cmpR op_gtA (pe_callB (cbk_len (K := K)) (by rfl) Z.z_len bt_len (pa_cons (pv 2) pa_nil)) (pe_int) (nomark _)) (pw_or (pt_cmpR (opk_ne (K := K) hr.units) (pe_bm PySem.F.plainAttrs_str PySem.F.slot_str_count PySem.F.type_str_count mt_count (pe_ix (ixk (K := K)) (pv 2) (pe_un un_negA (pe_int)) (fun _ _ => rfl)) (pa_cons (pe_str) pa_nil)) (pe_int) (nomark _)) (pw_or1 (PW.pt (pw_and (pt_cmpR op_inS (pe_str) (pe_ix (ixk (K := K)) (pv 2) (pe_int) (fun _ _ => rfl)) (by rfl)) (pw_and1 (pt_cmpR (opk_eq (K := K) hr.units) (pe_callB (cbk_len (K := K)) (by rfl) Z.z_len bt_len (pa_cons (pv 2) pa_nil)) (pe_int) (nomark _))))))))) (pss_one (ps_ret (pe_non))) pss_nil)
      (pss_cons (ps_par (i := 3) (j := 4) (by rfl) sc__law_read.nd rfl rfl (by decide) rfl rfl (pa_cons (pe_ifExp (pt_cmpR (opk_eq (K := K) hr.units) (pe_callB (cbk_len (K := K)) (by rfl) Z.z_len bt_len (pa_cons (pv 2) pa_nil)) (pe_int) (nomark _)) (pe_cb c__law_read_frac (hr.mono (by decide)) (by rfl) (pa_cons (pe_ix (ixk (K := K)) (pv 2) (pe_int) (fun _ _ => rfl)) pa_nil)) (pe_tup (pa_cons (pe_int) (pa_cons (pe_int) pa_nil)))) (pa_cons (pe_cb c__law_read_frac (hr.mono (by decide)) (by rfl) (pa_cons (pe_ix (ixk (K := K)) (pe_bm PySem.F.plainAttrs_str PySem.F.slot_str_split PySem.F.type_str_split mt_split (pe_ix (ixk (K := K)) (pv 2) (pe_un un_negA (pe_int)) (fun _ _ => rfl)) (pa_cons (pe_str) pa_nil)) (pe_int) (fun _ _ => rfl)) pa_nil)) pa_nil)) (by rfl))
      (pss_cons (ps_set (i := 5) sc__law_read.nd rfl (.inl rfl) (pe_cb c__law_figures (hr.mono (by decide)) (by rfl) (pa_cons (pe_ix (ixk (K := K)) (pe_bm PySem.F.plainAttrs_str PySem.F.slot_str_split PySem.F.type_str_split mt_split (pe_ix (ixk (K := K)) (pv 2) (pe_un un_negA (pe_int)) (fun _ _ => rfl)) (pa_cons (pe_str) pa_nil)) (pe_int) (fun _ _ => rfl)) pa_nil)))
      (pss_cons (ps_if (PW.pt (pw_or (pt_cmpR op_is (pv 3) (pe_non) (nomark _)) (pw_or (pt_cmpR op_is (pv 4) (pe_non) (nomark _)) (pw_or (pt_cmpR op_is (pv 5) (pe_non) (nomark _)) (pw_or (pt_cmpR op_ltA (pv 5) (pe_int) (nomark _)) (pw_or (pt_cmpR (opk_eq (K := K) hr.units) (pe_ix (ixk (K := K)) (pv 4) (pe_int) (fun _ _ => rfl)) (pe_int) (nomark _)) (pw_or1 (PW.pt (pw_and (pt_cmpR (opk_eq (K := K) hr.units) (pe_callB (cbk_len (K := K)) (by rfl) Z.z_len bt_len (pa_cons (pv 2) pa_nil)) (pe_int) (nomark _)) (pw_and1 (pt_cmpR (opk_eq (K := K) hr.units) (pe_ix (ixk (K := K)) (pv 3) (pe_int) (fun _ _ => rfl)) (pe_int) (nomark _)))))))))))) (pss_one (ps_ret (pe_non))) pss_nil)
      (pss_cons (ps_if (PW.pt (pw_or (pt_cmpR op_gtA (pv 5) (pe_int) (nomark _)) (pw_or1 (pt_cmpR op_gtA (pe_ix (ixk (K := K)) (pe_cb c__law_parts (hr.mono (by decide)) (by rfl) (pa_cons (pv 5) pa_nil)) (pe_int) (fun _ _ => rfl)) (pe_int) (nomark _))))) (pss_one (ps_ret (pe_non))) pss_nil)
      (pss_one (ps_ret (pe_tup (pa_cons (pv 3) (pa_cons (pv 4) (pa_cons (pv 5) pa_nil))))))))))))), ?_⟩
  refine w_run So rx ?_
  try simp only [nox_K, cx_K, List.map_cons, List.map_nil]
  have q' := okr_0 q So.len
  walk_at "w"
  refine w_if (b := !decide (114 ∈ l)) (s1 := st) (et_test (ev_op (ev_sS (l := [114]) (by decide +kernel)) (ev_var rfl) o_notInSg)) ?_ ?_
  · intro c
    have c : 114 ∉ l := by simpa using c
    have e : lawR l = (readF l).map fun a => (a, ((0 : Int), (1 : Int)), (1 : Int)) := by unfold lawR; rw [if_pos c]
    rw [e] at q'
    have RF : R_rfrac [.d (.str (S l))] st (.d (oF (readF l))) st := .mk h hz
    try dsimp only
    walk_at "w"
    refine w_asg (x := .d (oF (readF l))) (s1 := st) (ev_call (eva_cons (ev_var rfl) eva_nil) RF) ?_
    dsimp only [List.set]
    cases er : readF l with
    | none =>
      rw [er] at q'
      exact w_ret (ev_if (b := true) (et_test (ev_op (ev_var rfl) ev_non o_isN)) (fun _ => ev_non) (fun c => by cases c)) q'
    | some a =>
      rw [er] at q'
      exact w_ret (ev_if (b := false) (EvT.is (et_test (ev_op (ev_var rfl) ev_non o_isN)) (no_oF _)) (fun c => by cases c) (fun _ => ev_tupU (eva_cons (ev_var rfl) (eva_cons (ev_tupU (eva_cons ev_int (eva_cons ev_int eva_nil)) (.cons (.cons .nil)) (Nat.le_of_ble_eq_true rfl)) (eva_cons ev_int eva_nil))) (.cons (.cons (.cons .nil))) (Nat.le_of_ble_eq_true rfl))) q'
  · intro c
    have c : 114 ∈ l := by simpa using c
    try dsimp only
    walk_at "w"
    walk_at "w"
    obtain ⟨ws, ews, hws⟩ : ∃ ws : List (List Nat), splt 32 l = ws ∧ ∀ p ∈ ws, asc p ∧ p.length ≤ 100 := ⟨_, rfl, fun p hp => ⟨asc_splt h hp, by have := (splt_mem hp).2; omega⟩⟩
    have wl : ws.length ≤ 102 := by
      have := splt_len 32 l
      rw [ews] at this
      omega
    have e : lawR l = lawW ws := by
      unfold lawR
      rw [if_neg (by simpa using c), ews]
      rfl
    rw [e] at q'
    refine w_asg (x := .d (.list (stl ws))) (s1 := st) ?_ ?_
    · rw [← ews]
      exact ev_split (ev_var rfl) (eva_cons (ev_sS (l := [32]) (by decide +kernel)) eva_nil) (by omega) (by decide)
    dsimp only [List.set]
    have wne : ws ≠ [] := by rw [← ews]; exact Ks.splt_ne l
    walk_at "w"
    have LN : ∀ (ρ : En), ρ[2]? = some (some (.d (.list (stl ws)))) → Ev K (tCB (rLen K) (tCons (tVar 2) tNil)) ρ st (.d (.int (ws.length : Nat))) st := fun ρ h => Ev.is (ev_cb (eva_cons (ev_var h) eva_nil) o_lenL) (by rw [List.length_map])
    obtain ⟨tri, two, v, wd', aO, ok3⟩ : ∃ (tri two : Bool) (v wd' : List Nat) (aO : Option FF), (tri = true ∧ 2 < ws.length ∧ lawW ws = none) ∨
        (tri = false ∧ ws.length = (if two = true then 2 else 1) ∧ (stl ws)[0]? = some (.str (S v)) ∧ atI (stl ws) (-1) = some (.str (S wd')) ∧ asc v ∧ asc wd' ∧ v.length ≤ 100 ∧ wd'.length ≤ 100 ∧ aO = (if two = true then readF v else some (0, 1)) ∧
          lawW ws = (if (decide (114 ∈ v) && two) = true then none else bodyR two aO wd')) := by
      match ws, wne, hws with
      | [w], _, hws => exact ⟨false, false, w, w, some (0, 1), .inr ⟨rfl, rfl, rfl, rfl, (hws w (by simp)).1, (hws w (by simp)).1, (hws w (by simp)).2, (hws w (by simp)).2, rfl, by simp [lawW]⟩⟩
      | [v, w], _, hws => exact ⟨false, true, v, w, readF v, .inr ⟨rfl, rfl, rfl, rfl, (hws v (by simp)).1, (hws w (by simp)).1, (hws v (by simp)).2, (hws w (by simp)).2, rfl, by simp [lawW]⟩⟩
      | x :: y :: z :: t, _, hws => exact ⟨true, true, x, x, none, .inl ⟨rfl, by simp, rfl⟩⟩
    rcases ok3 with ⟨_, l3, en⟩ | ⟨_, wlen, at0, atm, av, aw, lv, lw', eaO, en⟩
    · rw [en] at q'
      exact w_if (b := true) (s1 := st) (et_or1 (EvT.is (et_test (ev_op (LN _ rfl) ev_int o_gt)) (decide_eq_true (by omega)))) (fun _ => w_ret ev_non q') (fun c => by cases c)
    · rw [en] at q'
      have at0' : atI (stl ws) 0 = some (.str (S v)) := by
        have : 0 < (stl ws).length := by rw [List.length_map, wlen]; split <;> decide
        simp [atI, ixN]
        rw [if_pos (by rw [List.length_map] at this; omega)]
        simpa using at0
      have W0 : ∀ (ρ : En), ρ[2]? = some (some (.d (.list (stl ws)))) → Ev K (tOp (rIx K) (tVar 2) (tC (.int 0))) ρ st (.d (.str (S v))) st := fun ρ h => ev_op (ev_var h) ev_int (o_ixL at0')
      have WL : ∀ (ρ : En), ρ[2]? = some (some (.d (.list (stl ws)))) → Ev K (tOp (rIx K) (tVar 2) (tUn rNeg (tC (.int 1)))) ρ st (.d (.str (S wd'))) st := fun ρ h => ev_op (ev_var h) (ev_un ev_int (o_neg (i := 1))) (o_ixL atm)
      have T2 : ∀ (ρ : En), ρ[2]? = some (some (.d (.list (stl ws)))) → EvT K (tTest (tOp (rEqD K) (tCB (rLen K) (tCons (tVar 2) tNil)) (tC (.int 2)))) ρ st two st := fun ρ h => EvT.is (et_test (ev_op (LN ρ h) ev_int (o_eq rfl rfl))) (by rw [eqv_ii, wlen]; cases two <;> rfl)
      have cnt : ∀ (ρ : En), ρ[2]? = some (some (.d (.list (stl ws)))) → EvT K (tTest (tOp (rNeD K) (tBM K "str" (fun x xs H Q => ∃ a b, x = .str a ∧ xs = [.str b] ∧ Q (.int (Txt.count a b)) H) (tOp (rIx K) (tVar 2) (tUn rNeg (tC (.int 1)))) (tCons (tC (.str "r")) tNil)) (tC (.int 1)))) ρ st (!decide (wd'.count 114 = 1)) st := fun ρ h =>
        EvT.is (et_test (ev_op (ev_count (WL ρ h) (eva_cons (ev_sS (l := [114]) (by decide +kernel)) eva_nil)) ev_int (o_ne rfl rfl))) (by rw [eqv_ii]; congr 1; exact decide_eq_decide.mpr (by omega))
      refine w_if (b := false || (!decide (wd'.count 114 = 1) || (decide (114 ∈ v) && two))) (s1 := st) (et_or (EvT.is (et_test (ev_op (LN _ rfl) ev_int o_gt)) (decide_eq_false (by rw [wlen]; split <;> omega))) (fun _ => et_or (cnt _ rfl) (fun _ => et_and (et_test (ev_op (ev_sS (l := [114]) (by decide +kernel)) (W0 _ rfl) o_inSg)) (fun _ => T2 _ rfl) (fun _ => rfl)) (fun _ => rfl)) (fun c => by cases c)) ?_ ?_
      · intro c2
        have c2 : (!decide (wd'.count 114 = 1) || (decide (114 ∈ v) && two)) = true := c2
        have e2 : (if (decide (114 ∈ v) && two) = true then none else bodyR two aO wd') = none := by
          by_cases z : (decide (114 ∈ v) && two) = true
          · rw [if_pos z]
          · rw [if_neg z]
            rw [Bool.not_eq_true] at z
            rw [z, Bool.or_false] at c2
            unfold bodyR
            rw [if_pos (by simpa using c2)]
        rw [e2] at q'
        exact w_ret ev_non q'
      · intro c2
        have c2 : (!decide (wd'.count 114 = 1) || (decide (114 ∈ v) && two)) = false := c2
        rw [Bool.or_eq_false_iff] at c2
        have cc : wd'.count 114 = 1 := by simpa using c2.1
        rw [if_neg (by rw [c2.2]; exact Bool.false_ne_true)] at q'
        obtain ⟨ss, uu, esu⟩ : ∃ ss uu, splt 114 wd' = [ss, uu] := by
          have := splt_count 114 wd'
          rw [cc] at this
          match hh : splt 114 wd', this with
          | [a, b], _ => exact ⟨a, b, rfl⟩
        have hs1 := splt_mem (c := 114) (l := wd') (p := ss) (by rw [esu]; simp)
        have hu1 := splt_mem (c := 114) (l := wd') (p := uu) (by rw [esu]; simp)
        have as_ : asc ss := asc_splt (c := 114) aw (by rw [esu]; simp)
        have au : asc uu := asc_splt (c := 114) aw (by rw [esu]; simp)
        have eb : bodyR two aO wd' = fin3 two aO (readF ss) (figs uu) := by
          unfold bodyR
          rw [if_neg (by simp [cc]), esu]
          rfl
        rw [eb] at q'
        have RA : R_rfrac [.d (.str (S v))] st (.d (oF (readF v))) st := .mk av lv
        have RS : R_rfrac [.d (.str (S ss))] st (.d (oF (readF ss))) st := .mk as_ (by have := hs1.2; omega)
        have RU : R_figs [.d (.str (S uu))] st (.d (oM (figs uu))) st := .mk au (by have := hu1.2; omega)
        have SPL : ∀ (ρ : En), ρ[2]? = some (some (.d (.list (stl ws)))) → Ev K (tBM K "str" (fun x xs H Q => ∃ a b, x = .str a ∧ xs = [.str b] ∧ (b.length == 0) = false ∧ a.length + 2 ≤ sizeLine ∧ rNewStrs (Txt.split a b) H Q) (tOp (rIx K) (tVar 2) (tUn rNeg (tC (.int 1)))) (tCons (tC (.str "r")) tNil)) ρ st (.d (.list (stl [ss, uu]))) st := fun ρ h => by
          rw [← esu]
          exact ev_split (WL ρ h) (eva_cons (ev_sS (l := [114]) (by decide +kernel)) eva_nil) (by omega) (by decide)
        try dsimp only
        walk_at "w"
        walk_at "w"
        refine w_par (x := .d (oF aO)) (y := .d (oF (readF ss))) (s1 := st) ?_ ?_
        · refine eva_cons (ev_if (T2 _ rfl) (fun z => ?_) (fun z => ?_)) (eva_cons (ev_call (eva_cons (ev_op (SPL _ rfl) ev_int (o_ixL rfl)) eva_nil) RS) eva_nil)
          · rw [eaO, if_pos z]
            exact ev_call (eva_cons (W0 _ rfl) eva_nil) RA
          · rw [eaO, if_neg (by rw [z]; exact Bool.false_ne_true)]
            exact ev_tupU (eva_cons ev_int (eva_cons ev_int eva_nil)) (.cons (.cons .nil)) (Nat.le_of_ble_eq_true rfl)
        dsimp only [List.set]
        walk_at "w"
        refine w_asg (x := .d (oM (figs uu))) (s1 := st) (ev_call (eva_cons (ev_op (SPL _ rfl) ev_int (o_ixL rfl)) eva_nil) RU) ?_
        dsimp only [List.set]
        walk_at "w"
        clear eaO
        cases aO with
        | none =>
          exact w_if (b := true) (s1 := st) (et_or1 (et_test (ev_op (ev_var rfl) ev_non o_isN))) (fun _ => w_ret ev_non q') (fun c => by cases c)
        | some a =>
          generalize readF ss = bO at *
          cases bO with
          | none =>
            have q' : Okr K M H (.d .none) st Q := q'
            exact w_if (b := true) (s1 := st) (EvT.is (b := false || true) (et_or (EvT.is (et_test (ev_op (ev_var rfl) ev_non o_isN)) (no_oF _)) (fun _ => et_or1 (et_test (ev_op (ev_var rfl) ev_non o_isN))) (fun c => by cases c)) rfl) (fun _ => w_ret ev_non q') (fun c => by cases c)
          | some b =>
            obtain ⟨a1, a2⟩ := a
            obtain ⟨b1, b2⟩ := b
            cases en2 : figs uu with
            | none =>
              rw [en2] at q'
              exact w_if (b := true) (s1 := st) (EvT.is (b := false || (false || true)) (et_or (EvT.is (et_test (ev_op (ev_var rfl) ev_non o_isN)) (no_oF _)) (fun _ => et_or (EvT.is (et_test (ev_op (ev_var rfl) ev_non o_isN)) (no_oF _)) (fun _ => et_or1 (et_test (ev_op (ev_var rfl) ev_non o_isN))) (fun c => by cases c)) (fun c => by cases c)) rfl) (fun _ => w_ret ev_non q') (fun c => by cases c)
            | some n =>
              rw [en2] at q'
              have q' : Okr K M H (.d (oL (if n < 2 ∨ b1 = 0 ∨ (two = true ∧ a1 = 0) then none else if n > 1000000 ∨ sf n = false then none else some ((a1, a2), (b1, b2), (n : Int))))) st Q := q'
              refine w_if (b := false || (false || (false || (decide (n < 2) || (decide (b1 = 0) || (two && decide (a1 = 0))))))) (s1 := st) (et_or (EvT.is (et_test (ev_op (ev_var rfl) ev_non o_isN)) (no_oF _)) (fun _ => et_or (EvT.is (et_test (ev_op (ev_var rfl) ev_non o_isN)) (no_oF _)) (fun _ => et_or (EvT.is (et_test (ev_op (ev_var rfl) ev_non o_isN)) (no_oM _)) (fun _ => et_or (EvT.is (et_test (ev_op (ev_var rfl) ev_int o_lt)) (decide_eq_decide.mpr (by omega))) (fun _ => et_or (EvT.is (et_test (ev_op (ev_op (ev_var rfl) ev_int (o_ixT rfl)) ev_int (o_eq rfl rfl))) eqv_ii) (fun _ => et_and (T2 _ rfl) (fun _ => EvT.is (et_test (ev_op (ev_op (ev_var rfl) ev_int (o_ixT rfl)) ev_int (o_eq rfl rfl))) eqv_ii) (fun _ => rfl)) (fun _ => rfl)) (fun _ => rfl)) (fun _ => rfl)) (fun _ => rfl)) (fun _ => rfl)) ?_ ?_
              · intro c3
                rw [if_pos (by simpa using c3)] at q'
                exact w_ret ev_non q'
              · intro c3
                have c3' : ¬ (n < 2 ∨ b1 = 0 ∨ (two = true ∧ a1 = 0)) := by simpa using c3
                rw [if_neg c3'] at q'
                try dsimp only
                walk_at "w"
                walk_at "w"
                by_cases n6 : n > 1000000
                · rw [if_pos (.inl n6)] at q'
                  exact w_if (b := true) (s1 := st) (et_or1 (EvT.is (et_test (ev_op (ev_var rfl) ev_int o_gt)) (decide_eq_true (by omega)))) (fun _ => w_ret ev_non q') (fun c => by cases c)
                · obtain ⟨s0, u0, pr⟩ := Km.Prt.ex n n (Nat.le_refl _) (by omega)
                  have RP : R_lparts [.d (.int (n : Int))] st (.d (q2 s0 u0)) st := .mk pr (by omega)
                  have es := sf_prt pr
                  have e1 : decide ((1 : Int) < (s0 : Int)) = !sf (n : Int) := by
                    rw [es]
                    have s1 := pr.s1
                    by_cases z : s0 = 1
                    · have : u0 = n := by have := pr.eq; rw [z] at this; omega
                      simp [z, this]
                    · simp [z]
                      omega
                  refine w_if (b := false || !sf (n : Int)) (s1 := st) (et_or (EvT.is (et_test (ev_op (ev_var rfl) ev_int o_gt)) (decide_eq_false (by omega))) (fun _ => EvT.is (et_test (ev_op (ev_op (ev_call (eva_cons (ev_var rfl) eva_nil) RP) ev_int (o_ixT rfl)) ev_int o_gt)) e1) (fun c => by cases c)) ?_ ?_
                  · intro c4
                    rw [if_pos (.inr (by simpa using c4))] at q'
                    exact w_ret ev_non q'
                  · intro c4
                    have c4 : sf (n : Int) = true := by simpa using c4
                    rw [if_neg (fun z => z.elim n6 (by rw [c4]; simp))] at q'
                    try dsimp only
                    walk_at "w"
                    exact w_ret (ev_tupU (eva_cons (ev_var rfl) (eva_cons (ev_var rfl) (eva_cons (ev_var rfl) eva_nil))) (.cons (.cons (.cons .nil))) (Nat.le_of_ble_eq_true rfl)) q'
end
end
end K05
namespace K05
open PySem L2 Pw
open SX (S)
open Ks (ntx ftx numIn fracOr unm dig figs val rOk rtx sf FF progR readF lawR)
open Km
theorem w_eta {K : Pw.Fg} {M0 : List Addr} {H0 : Hp} {F : Kp} {P : L2.St → Hp → Prop} {ρ : En} {s : Sto} (h : W K M0 H0 F P ρ s) : W K M0 H0 F (fun σ H => P σ H) ρ s := h
inductive R_told : Gr
  | ok {l r} {t : Int} {s} (h : asc l) (hz : l.length < 60) (e : progR l = some r) : R_told [.d (.str (S l)), .d (.int t)] s (.d (oR r)) s
  | no {l} {t : Int} {s} (h : asc l) (hz : l.length < 60) (e : progR l = none) : R_told [.d (.str (S l)), .d (.int t)] s (.d (.tuple [.str "refused", .str (S l)])) s
inductive R_bent : Gr
  | mk {k b b' c s l l'} (hl : s[k]? = some (bxl b)) (hc : Bk c b) (hc2 : c + 10 ≤ 2 ^ 40) (ha : asc l) (hz : l.length ≤ 90) (ha' : asc l') (hz' : l'.length ≤ l.length + 1) (hb : ∀ c, Bk c b → Bk (c + 3) b') : R_bent [.loc k, .d (.str (S l))] s (.d (.str (S l'))) (s.set k (bxl b'))
theorem bent_ex {k : Nat} {b : Bx} {c : Nat} {s : Sto} {l : List Nat} (hl : s[k]? = some (bxl b)) (hc : Bk c b) (hc2 : c + 10 ≤ 2 ^ 40) (ha : asc l) (hz : l.length ≤ 90) : ∃ x s', R_bent [.loc k, .d (.str (S l))] s x s' :=
  ⟨_, _, .mk (b' := b) (l' := l) hl hc hc2 ha hz ha (by omega) (fun c h => h.mono (by omega))⟩
def bsigns : List Nat := [48, 49, 50, 51, 52, 53, 54, 55, 56, 57, 45, 47, 114, 32, 114, 46, 32, 43, 97]
theorem bsigns_eq : Str.ofString "0123456789-/r r. +a" = S bsigns := by decide +kernel
section
local macro_rules | `(tactic| walk_at "sd") => `(tactic| first | rfl | assumption | exact Nat.le_of_ble_eq_true rfl | decide | omega | (walk_at "sd2"))
local macro_rules | `(tactic| walk_at "sd2") => `(tactic| first | exact cm_sm (by assumption) (by assumption) | exact cf_sm (by assumption) (by assumption) | ((with_reducible apply gs); (walk_at "sd")) | exact cm_fm7 | exact cm_if | exact cm_l (by omega) (by omega) | exact cm_r (by omega) (by omega) | exact cf_c (by omega) (by omega))
local macro_rules | `(tactic| walk_at "isi") => `(tactic| with_reducible first | exact kit_int | exact kit_bool | exact kit_tuple | exact kit_list | exact kit_str)
local macro_rules | `(tactic| walk_at "und") => `(tactic| with_reducible repeat (first | exact Und.nil | apply Und.cons))
local macro_rules | `(tactic| walk_at "op") => `(tactic| (first
  | with_reducible exact o_add | with_reducible exact o_minus | with_reducible exact o_lt | with_reducible exact o_gt | with_reducible exact o_le | with_reducible exact o_ge | with_reducible exact o_neg
  | with_reducible exact o_isN | with_reducible exact o_isntN | with_reducible exact o_isB | with_reducible exact o_isntB | with_reducible exact o_neS | with_reducible exact o_eqS
  | with_reducible exact o_abs | with_reducible exact o_intB | with_reducible exact o_min2 | with_reducible exact o_max2 | with_reducible exact o_lenL | with_reducible exact o_lenT | with_reducible exact o_lenC | with_reducible exact o_gcd
  | with_reducible apply o_ixT | with_reducible apply o_ixL | with_reducible apply o_ixM | with_reducible apply o_ixS | with_reducible apply o_lenM
  | with_reducible apply o_mul | with_reducible apply o_fdiv | with_reducible apply o_mod | with_reducible apply o_pow | with_reducible apply o_eq | with_reducible apply o_ne | with_reducible apply o_catT | with_reducible apply o_repr | with_reducible apply o_all) <;> walk_at "sd")
local macro_rules | `(tactic| walk_at "opn") => `(tactic| (first
  | with_reducible apply o_cat | with_reducible apply o_repI | with_reducible exact o_listT | with_reducible exact o_listL) <;> walk_at "sd")
local macro_rules | `(tactic| walk_at "ea") => `(tactic| first
  | with_reducible exact eva_nil
  | ((with_reducible apply eva_cons); (walk_at "ev"); (walk_at "ea")))
local macro_rules | `(tactic| walk_at "call") => `(tactic| fail)
local macro_rules | `(tactic| walk_at "evn") => `(tactic| first
  | ((with_reducible apply evn_lstU); (walk_at "ea"); (walk_at "und"); (walk_at "sd"))
  | ((with_reducible apply evn_op); (walk_at "ev"); (walk_at "ev"); (walk_at "opn"))
  | ((with_reducible apply evn_cb); (walk_at "ea"); (walk_at "opn"))
  | ((with_reducible apply evn_call); (walk_at "ea"); (walk_at "call")))
local macro_rules | `(tactic| walk_at "ev") => `(tactic| first
  | with_reducible exact ev_int | with_reducible exact ev_bl | with_reducible exact ev_non | with_reducible exact ev_str
  | ((with_reducible apply ev_var); rfl)
  | ((with_reducible apply ev_op); (walk_at "ev"); (walk_at "ev"); (walk_at "op"))
  | ((with_reducible apply ev_un); (walk_at "ev"); (walk_at "op"))
  | ((with_reducible apply ev_call); (walk_at "ea"); (walk_at "call"))
  | ((with_reducible apply ev_callD); (walk_at "ea"); (intro _ _; exact rxs_1); (walk_at "call"))
  | ((with_reducible apply ev_callK); (walk_at "ea"); rfl; (intro _ _ _ hh; first | exact rxs_swap2 hh | exact rxs_same1 hh); (walk_at "call"))
  | ((with_reducible apply ev_isi); (walk_at "ev"); (walk_at "isi"))
  | ((with_reducible apply ev_isi2); (walk_at "ev"); (walk_at "isi"); (walk_at "isi"))
  | ((with_reducible apply ev_cb); (walk_at "ea"); (walk_at "op"))
  | ((with_reducible apply ev_tupU); (walk_at "ea"); (walk_at "und"); (walk_at "sd"))
  | ((with_reducible apply ev_new); (walk_at "evn"))
  | ((with_reducible apply ev_slT); (walk_at "ev"); (walk_at "eo"); (walk_at "eo"))
  | ((with_reducible apply ev_andV); (walk_at "ev"); (intro _; walk_at "ev"); (intro _; rfl))
  | ((with_reducible apply ev_orV); (walk_at "ev"); (intro _; walk_at "ev"); (intro _; rfl))
  | ((with_reducible apply ev_notV); (walk_at "ev")))
local macro_rules | `(tactic| walk_at "eo") => `(tactic| first
  | with_reducible exact eo_none
  | ((with_reducible apply eo_some); (walk_at "ev")))
local macro_rules | `(tactic| walk_at "et") => `(tactic| first
  | ((with_reducible apply et_test); (walk_at "ev"))
  | ((with_reducible apply et_B); (walk_at "ev"))
  | ((with_reducible apply et_not); (walk_at "et"))
  | ((with_reducible apply et_and); (walk_at "et"); (intro _; walk_at "et"); (intro _; rfl))
  | ((with_reducible apply et_or); (walk_at "et"); (intro _; walk_at "et"); (intro _; rfl)))
local macro_rules | `(tactic| walk_at "w") => `(tactic| first
  | (with_reducible apply w_seq)
  | (with_reducible apply w_next)
  | ((with_reducible apply w_asg); (walk_at "ev"))
  | ((with_reducible apply w_ret); (walk_at "ev"))
  | ((with_reducible apply w_drop); (walk_at "ev"))
  | ((with_reducible apply w_par); (walk_at "ea"))
  | ((with_reducible apply w_tup2); (walk_at "ev"))
  | ((with_reducible apply w_tup3); (walk_at "ev"))
  | ((with_reducible apply w_setI); (walk_at "ev"); (walk_at "ev"); (walk_at "ev"); (walk_at "sd"); (walk_at "sd"))
  | ((with_reducible apply w_if); (walk_at "et")))

variable {P : Program} {w : World} {K : Pw.Fg} {mg : Str → Option Value} {base : Heap} {f : Addr} {fd : FuncData} {ζ : ZA}
theorem ta4 {a b c d : V} : ∀ (σ : L2.St) (H : Hp) (Q : List V → Hp → Prop), Q [a, b, c, d] H → (tCons (tC a) (tCons (tC b) (tCons (tC c) (tCons (tC d) tNil)))) σ H Q := fun _ _ _ q => q
theorem ok_told (Z : Zx K mg ζ) (c_root_in : CbX P w K mg base "root_in" 5 (spX K R_rin (X_rin ζ))) (k_root_in : CkX P w K mg base "root_in" 5 ["text"] same1 (spX K R_rin (X_rin ζ)))
    (G : Fun K "_law_told" "_law_told" s__law_told f fd) : FnOk P w K mg base CX0 6 f fd ["_law_line_here", "_law_turn"] (spF K R_told) := by
  refine G.ok sc__law_told (spF_len fun xs s x s' h => by cases h <;> rfl) (fun cdv A outer s H vs Q E hr ⟨M, xs, st, x, st', h, So, rx, q⟩ => ?_)
  refine ⟨_, (pss_cons (ps_set (i := 2) sc__law_told.nd rfl (.inl rfl) (pe_non))
      (pss_cons (ps_try_keep (i := 4) (j := 2) (hl := Nat.le_of_ble_eq_true rfl) rfl rfl sc__law_told.nd rfl rfl rfl rfl (Nms.cons ⟨by rfl, by decide, .inl Z.g_BadRow⟩ (Nms.cons ⟨by rfl, by decide, .inl Z.g_BadText⟩ (Nms.cons ⟨by rfl, by decide, .inl Z.g_ByNought⟩ (Nms.cons ⟨by rfl, by decide, .inl Z.g_NoRoot⟩ (Nms.cons ⟨by rfl, by decide, .inl Z.g_TooGreat⟩ Nms.nil))))) takes0 (fun W pn xe tk _ => (pss_one (ps_set (i := 3) sc__law_told.nd rfl (.inl rfl) (pe_ifExp (pt_cmpR (opk_eq (K := K) hr.units) (pv 1) (pe_int) (nomark _)) (pe_cbX c_root_in (hr.mono (by decide)) (by rfl) tk (pa_cons (pv 0) pa_nil)) (pe_ckX k_root_in (hr.mono (by decide)) (by rfl) tk (pk_cons (pv 0) pk_nil)))))))
      (pss_cons (ps_if (pt_cmpR op_is (pv 2) (pe_non) (nomark _)) (pss_one (ps_ret (pv 3))) pss_nil)
      (pss_cons (ps_set (i := 5) sc__law_told.nd rfl (.inl rfl) (pe_and (pe_callB (cbk_isX (K := K)) (by rfl) Z.z_isinstance bt_isinstance (pa_cons (pv 2) (pa_cons (pe_glob (v := .ref ζ.cBadText) (by rfl) Z.g_BadText rfl) pa_nil))) (pe_one (pe_callB (cbk_isX (K := K)) (by rfl) Z.z_isinstance bt_isinstance (pa_cons (pv 2) (pa_cons (pe_bltn (v := .ty "ValueError") (by rfl) Z.z_ValueError bt_ValueError rfl) pa_nil))))))
      (pss_cons (ps_set (i := 5) sc__law_told.nd rfl (.inl rfl) (pe_and (pv 5) (pe_one (pe_not (pe_callB (cbk_isXT (K := K)) (by rfl) Z.z_isinstance bt_isinstance (pa_cons (pv 2) (pa_cons (pe_tup (pa_cons (pe_glob (v := .ref ζ.cBadRow) (by rfl) Z.g_BadRow rfl) (pa_cons (pe_glob (v := .ref ζ.cByNought) (by rfl) Z.g_ByNought rfl) (pa_cons (pe_glob (v := .ref ζ.cNoRoot) (by rfl) Z.g_NoRoot rfl) (pa_cons (pe_glob (v := .ref ζ.cTooGreat) (by rfl) Z.g_TooGreat rfl) pa_nil))))) pa_nil)))))))
      (pss_one (ps_ret (pe_ifExp (pt_val (pv 5)) (pe_tup (pa_cons (pe_str) (pa_cons (pe_xgK (K := K) (pv 2)) pa_nil))) (pe_tup (pa_cons (pe_str) (pa_cons (pe_str) pa_nil))))))))))), ?_⟩
  cases h with
  | @ok l r t _ h hz e =>
    refine w_run So rx ?_
    try simp only [nox_K, cx_K, List.map_cons, List.map_nil]
    have q' := okr_0 q So.len
    iterate 3 (walk_at "w")
    dsimp only
    refine w_eta ?_
    refine w_asg (x := .d (oR r)) (s1 := st) (ev_if (b := PyData.eqv (.int t) (.int 0)) (et_test (ev_op (ev_var rfl) ev_int (o_eq rfl rfl))) (fun _ => ev_callS (eva_cons (ev_var rfl) eva_nil) (.mk h hz e)) (fun _ => ev_callKS (ys := [.d (.str (S l))]) (eva_cons (ev_var rfl) eva_nil) rfl (fun _ _ _ hh => rxs_same1 hh) (.mk h hz e))) ?_
    iterate 2 (walk_at "w")
    · intro _
      exact w_ret (ev_var rfl) q'
    · intro c
      cases c
  | @no l t _ h hz e =>
    refine w_run So rx ?_
    try simp only [nox_K, cx_K, List.map_cons, List.map_nil]
    have q' := okr_0 q So.len
    iterate 3 (walk_at "w")
    dsimp only
    refine w_eta ?_
    refine w_asgX (s1 := st) (evx_if (s1 := st) (b := PyData.eqv (.int t) (.int 0)) (et_test (ev_op (ev_var rfl) ev_int (o_eq rfl rfl))) (fun _ => evx_callS (s1 := st) (eva_cons (ev_var rfl) eva_nil) (X_rin.mk h hz e)) (fun _ => evx_callKS (s1 := st) (ys := [.d (.str (S l))]) (eva_cons (ev_var rfl) eva_nil) rfl (fun _ _ _ hh => rxs_same1 hh) (X_rin.mk h hz e))) (wx_keep Z.m_BadText ?_)
    dsimp only
    walk_at "w"
    refine w_if (b := false) (s1 := st) (et_test (ev_op (ev_var rfl) ev_non o_isNX)) (fun c => by cases c) ?_
    intro _
    try dsimp only
    walk_at "w"
    walk_at "w"
    refine w_asg (x := .d (.bool true)) (s1 := st) (ev_andV (b := true) (c := true) (ev_isX (ev_var rfl) Z.e_BadText (.own _) Z.b_own) (fun _ => ev_isX (ev_var rfl) Z.e_BadText (.ty _) Z.b_V) (fun c => by cases c)) ?_
    dsimp only [List.set]
    walk_at "w"
    refine w_asg (x := .d (.bool true)) (s1 := st) (ev_andV (b := true) (c := true) (ev_var rfl) (fun _ => ev_notV (b := false) (tup_isX (ev_var rfl) ta4 Z.e_BadText (.cons (.own _) (.cons (.own _) (.cons (.own _) (.cons (.own _) .nil)))) (Nat.le_of_ble_eq_true rfl) Z.b_no)) (fun c => by cases c)) ?_
    dsimp only [List.set]
    refine w_ret (s1 := st) (ev_if (b := true) (et_B (ev_var rfl)) (fun _ => ?_) (fun c => by cases c)) q'
    exact ev_tupU (eva_cons ev_str (eva_cons (ev_xg (ev_var rfl) Z.e_BadText Z.n_BadText) eva_nil)) (.cons (.cons .nil)) (Nat.le_of_ble_eq_true rfl)
theorem five {l0 l1 l2 l3 l4 : List Nat} {b : Bx} {n : Nat} (h : ∀ l ∈ [l0, l1, l2, l3, l4], asc l ∧ l.length ≤ n) : ∃ l', atI (stl [l0, l1, l2, l3, l4]) (tkR b 5) = some (.str (S l')) ∧ asc l' ∧ l'.length ≤ n := by
  have r := tk_r (b := b) (n := 5) (by decide)
  rcases (show tkR b 5 = 0 ∨ tkR b 5 = 1 ∨ tkR b 5 = 2 ∨ tkR b 5 = 3 ∨ tkR b 5 = 4 by omega) with e | e | e | e | e <;> rw [e]
  · exact ⟨l0, rfl, h l0 (by simp)⟩
  · exact ⟨l1, rfl, h l1 (by simp)⟩
  · exact ⟨l2, rfl, h l2 (by simp)⟩
  · exact ⟨l3, rfl, h l3 (by simp)⟩
  · exact ⟨l4, rfl, h l4 (by simp)⟩
theorem asc_sub {a b : List Nat} (h : asc b) (hs : ∀ x ∈ a, x ∈ b) : asc a := by
  unfold asc at h ⊢
  rw [List.all_eq_true] at h ⊢
  exact fun x hx => h x (hs x hx)
theorem ok_bent (Z : Zx K mg ζ) (c__law_take : Cb P w K mg base "_law_take" 1 [] (spF K R_take)) (c__law_of : Cb P w K mg base "_law_of" 2 [] (spF K R_of)) (G : Fun K "_law_bent" "_law_bent" s__law_bent f fd) : FnOk P w K mg base CX0 3 f fd ["_law_box_here", "_law_line_here"] (spP K R_bent) := by
  refine G.ok sc__law_bent (spP_len fun xs s x s' h => by cases h; rfl) (fun cdv A outer s H vs Q E hr ⟨M, xs, st, ⟨x, st', h⟩, So, rx, q⟩ => ?_)
  cases h with
  | @mk k b b' c _ l l' hl hc hc2 ha hz ha' hz' hb =>
  refine ⟨_, (pss_cons (ps_par3 (i := 2) (j := 3) (l := 4) (by rfl) sc__law_bent.nd rfl rfl rfl (by decide) (by decide) (by decide) rfl rfl rfl (pa_cons (pe_cb c__law_of (hr.mono (by decide)) (by rfl) (pa_cons (pv 0) (pa_cons (pe_str) pa_nil))) (pa_cons (pe_cb c__law_take (hr.mono (by decide)) (by rfl) (pa_cons (pv 0) (pa_cons (pe_op (opk_plus (K := K)) (pe_callB (cbk_len (K := K)) (by rfl) Z.z_len bt_len (pa_cons (pv 1) pa_nil)) (pe_int)) pa_nil))) (pa_cons (pe_cb c__law_take (hr.mono (by decide)) (by rfl) (pa_cons (pv 0) (pa_cons (pe_int) pa_nil))) pa_nil))) (by rfl))
      (pss_cons (ps_par (i := 5) (j := 6) (by rfl) sc__law_bent.nd rfl rfl (by decide) rfl rfl (pa_cons (pe_slice sl_str (pv 1) po_none (po_some (pv 3))) (pa_cons (pe_slice sl_str (pv 1) (po_some (pv 3)) po_none) pa_nil)) (by rfl))
      (pss_cons (ps_set (i := 7) sc__law_bent.nd rfl (.inl rfl) (pe_lst (pa_cons (pe_op (opk_plus (K := K)) (pe_op (opk_plus (K := K)) (pv 5) (pv 2)) (pv 6)) (pa_cons (pe_op (opk_plus (K := K)) (pe_op (opk_plus (K := K)) (pv 5) (pv 2)) (pe_slice sl_str (pv 6) (po_some (pe_int)) po_none)) (pa_cons (pe_op (opk_plus (K := K)) (pv 5) (pe_slice sl_str (pv 6) (po_some (pe_int)) po_none)) (pa_cons (pe_op (opk_plus (K := K)) (pe_op (opk_plus (K := K)) (pv 5) (pe_slice sl_str (pv 6) po_none (po_some (pe_int)))) (pv 6)) pa_nil))))))
      (pss_one (ps_ret (pe_ix (ixk (K := K)) (pe_op (opk_plus (K := K)) (pv 7) (pe_lst (pa_cons (pe_op (opk_plus (K := K)) (pe_op (opk_plus (K := K)) (pv 5) (pe_rev rv_str (pe_slice sl_str (pv 6) po_none (po_some (pe_int))) (po_some (pe_un un_negA (pe_int))))) (pe_slice sl_str (pv 6) (po_some (pe_int)) po_none)) pa_nil))) (pv 4) (fun _ _ => rfl))))))), ?_⟩
  refine w_run So rx ?_
  try simp only [nox_K, cx_K, List.map_cons, List.map_nil]
  have r0 := tk_r (b := b) (n := 19) (by decide)
  obtain ⟨x, hx⟩ : ∃ x, bsigns[(tkR b ((bsigns.length : Nat) : Int)).toNat]? = some x := ⟨bsigns[(tkR b ((bsigns.length : Nat) : Int)).toNat]'(by show (tkR b 19).toNat < 19; omega), List.getElem?_eq_getElem _⟩
  have ax : asc [x] := by
    have hm := List.mem_of_getElem? hx
    have : bsigns.all (· < 128) = true := by decide
    rw [List.all_eq_true] at this
    rw [asc_cons]
    exact ⟨of_decide_eq_true (this x hm), rfl⟩
  have O1 : R_of [.loc k, .d (.str (S bsigns))] st (.d (.str (S [x]))) _ := .str hl (by decide) (by decide) hc (by omega) hx
  generalize hb1 : tkB b ((bsigns.length : Nat) : Int) = b1 at O1
  have k1 : Bk (c + 1) b1 := by rw [← hb1]; exact hc.next
  have hl1 : (st.set k (bxl b1))[k]? = some (bxl b1) := gs hl
  have T1 : R_take [.loc k, .d (.int ((l.length : Nat) + 1))] (st.set k (bxl b1)) _ _ := .mk hl1 (by omega) (by omega) k1 (by omega)
  rw [List.set_set] at T1
  have r1 := tk_r (b := b1) (n := ((l.length : Nat) : Int) + 1) (by omega)
  obtain ⟨n, en⟩ : ∃ n : Nat, tkR b1 (((l.length : Nat) : Int) + 1) = (n : Int) := ⟨_, (Int.toNat_of_nonneg r1.1).symm⟩
  rw [en] at T1
  generalize hb2 : tkB b1 (((l.length : Nat) : Int) + 1) = b2 at T1
  have k2 : Bk (c + 2) b2 := by rw [← hb2]; exact k1.next
  have hl2 : (st.set k (bxl b2))[k]? = some (bxl b2) := gs hl
  have T2 : R_take [.loc k, .d (.int 5)] (st.set k (bxl b2)) _ _ := .mk hl2 (by decide) (by decide) k2 (by omega)
  rw [List.set_set] at T2
  have k3 : ∀ c, Bk c b → Bk (c + 3) (tkB b2 5) := fun c h => by
    rw [← hb2, ← hb1]
    exact h.next.next.next
  have ah : asc (l.take n) := asc_sub ha fun x hx => List.mem_of_mem_take hx
  have ad : asc (l.drop n) := asc_sub ha fun x hx => List.mem_of_mem_drop hx
  have ln : (l.take n).length + (l.drop n).length = l.length := by rw [List.length_take, List.length_drop]; omega
  obtain ⟨l', e5, a5, z5⟩ := five (l0 := l.take n ++ [x] ++ l.drop n) (l1 := l.take n ++ [x] ++ (l.drop n).drop 1) (l2 := l.take n ++ (l.drop n).drop 1) (l3 := l.take n ++ (l.drop n).take 1 ++ l.drop n) (l4 := l.take n ++ ((l.drop n).take 2).reverse ++ (l.drop n).drop 2) (b := b2) (n := l.length + 1) (by
    have ad1 : ∀ m, asc ((l.drop n).drop m) := fun m => asc_sub ad fun x hx => List.mem_of_mem_drop hx
    have at1 : ∀ m, asc ((l.drop n).take m) := fun m => asc_sub ad fun x hx => List.mem_of_mem_take hx
    have ar : asc ((l.drop n).take 2).reverse := asc_sub (at1 2) fun x hx => by simpa using hx
    intro y hy
    simp only [List.mem_cons, List.not_mem_nil, or_false] at hy
    rcases hy with rfl | rfl | rfl | rfl | rfl
    · exact ⟨asc_app.mpr ⟨asc_app.mpr ⟨ah, ax⟩, ad⟩, by simp only [List.length_append, List.length_cons, List.length_nil]; omega⟩
    · exact ⟨asc_app.mpr ⟨asc_app.mpr ⟨ah, ax⟩, ad1 1⟩, by simp only [List.length_append, List.length_cons, List.length_nil, List.length_drop] at *; omega⟩
    · exact ⟨asc_app.mpr ⟨ah, ad1 1⟩, by simp only [List.length_append, List.length_drop] at *; omega⟩
    · exact ⟨asc_app.mpr ⟨asc_app.mpr ⟨ah, at1 1⟩, ad⟩, by simp only [List.length_append, List.length_take, List.length_drop] at *; omega⟩
    · exact ⟨asc_app.mpr ⟨asc_app.mpr ⟨ah, ar⟩, ad1 2⟩, by simp only [List.length_append, List.length_reverse, List.length_take, List.length_drop] at *; omega⟩)
  have DR : ∀ m : Nat, cutS (S (l.drop n)) (some (m : Int)) none = S ((l.drop n).drop m) := fun m => cut_from _ m
  have TK : ∀ m : Nat, cutS (S (l.drop n)) none (some (m : Int)) = S ((l.drop n).take m) := fun m => cut_to _ m
  have E1 : ∀ {a b : Str}, (a ++ b).length = a.length + b.length := fun {a b} => PySem.Str.length_append a b
  walk_at "w"
  refine w_par3 (x := .d (.str (S [x]))) (y := .d (.int (n : Int))) (z := .d (.int (tkR b2 5))) (s1 := st.set k (bxl (tkB b2 5))) ?_ ?_
  · refine eva_cons (ev_call (eva_cons (ev_var rfl) (eva_cons (ev_sS bsigns_eq) eva_nil)) O1) (eva_cons (ev_call (eva_cons (ev_var rfl) (eva_cons (Ev.is (ev_op (ev_cb (eva_cons (ev_var rfl) eva_nil) (o_lenS (by rw [len_S]; omega))) ev_int o_add) (by rw [len_S])) eva_nil)) T1) (eva_cons (ev_call (eva_cons (ev_var rfl) (eva_cons ev_int eva_nil)) T2) eva_nil))
  dsimp only [List.set]
  walk_at "w"
  refine w_par (x := .d (.str (S (l.take n)))) (y := .d (.str (S (l.drop n)))) (s1 := st.set k (bxl (tkB b2 5))) ?_ ?_
  · exact eva_cons (ev_slS (ev_var rfl) eo_none (eo_some (ev_var rfl)) (by omega) (cut_to l n)) (eva_cons (ev_slS (ev_var rfl) (eo_some (ev_var rfl)) eo_none (by omega) (cut_from l n)) eva_nil)
  dsimp only [List.set]
  walk_at "w"
  have lh : (S (l.take n)).length ≤ 90 := by rw [len_S]; omega
  have ld : (S (l.drop n)).length ≤ 90 := by rw [len_S]; omega
  have ld1 : ∀ m, (S ((l.drop n).drop m)).length ≤ 90 := fun m => by rw [len_S, List.length_drop]; omega
  have lt1 : ∀ m, (S ((l.drop n).take m)).length ≤ 90 := fun m => by rw [len_S, List.length_take]; omega
  have lx : (S [x]).length = 1 := rfl
  refine w_asg (x := .d (.list (stl [l.take n ++ [x] ++ l.drop n, l.take n ++ [x] ++ (l.drop n).drop 1, l.take n ++ (l.drop n).drop 1, l.take n ++ (l.drop n).take 1 ++ l.drop n]))) (s1 := st.set k (bxl (tkB b2 5))) ?_ ?_
  · refine ev_new (evn_lstU (xs := [.d (.str (S (l.take n ++ [x] ++ l.drop n))), .d (.str (S (l.take n ++ [x] ++ (l.drop n).drop 1))), .d (.str (S (l.take n ++ (l.drop n).drop 1))), .d (.str (S (l.take n ++ (l.drop n).take 1 ++ l.drop n)))]) ?_ (.cons (.cons (.cons (.cons .nil)))) (Nat.le_of_ble_eq_true rfl))
    refine eva_cons (Ev.is (ev_op (ev_op (ev_var rfl) (ev_var rfl) (o_addS (by omega))) (ev_var rfl) (o_addS (by rw [E1]; omega))) (by rw [SX.S_cat, SX.S_cat])) (eva_cons (Ev.is (ev_op (ev_op (ev_var rfl) (ev_var rfl) (o_addS (by omega))) (ev_slS (ev_var rfl) (eo_some ev_int) eo_none (by omega) (DR 1)) (o_addS (by rw [E1]; have := ld1 1; omega))) (by rw [SX.S_cat, SX.S_cat])) (eva_cons (Ev.is (ev_op (ev_var rfl) (ev_slS (ev_var rfl) (eo_some ev_int) eo_none (by omega) (DR 1)) (o_addS (by have := ld1 1; omega))) (by rw [SX.S_cat])) (eva_cons (Ev.is (ev_op (ev_op (ev_var rfl) (ev_slS (ev_var rfl) eo_none (eo_some ev_int) (by omega) (TK 1)) (o_addS (by have := lt1 1; omega))) (ev_var rfl) (o_addS (by rw [E1]; have := lt1 1; omega))) (by rw [SX.S_cat, SX.S_cat])) eva_nil)))
  dsimp only [List.set]
  have lr : (S ((l.drop n).take 2).reverse).length ≤ 90 := by rw [len_S, List.length_reverse, List.length_take]; omega
  refine w_ret (x := .d (.str (S l'))) (s1 := st.set k (bxl (tkB b2 5))) (ev_op (ev_new (evn_op (ds := stl [l.take n ++ [x] ++ l.drop n, l.take n ++ [x] ++ (l.drop n).drop 1, l.take n ++ (l.drop n).drop 1, l.take n ++ (l.drop n).take 1 ++ l.drop n, l.take n ++ ((l.drop n).take 2).reverse ++ (l.drop n).drop 2]) (ev_var rfl) (ev_new (evn_lstU (xs := [.d (.str (S (l.take n ++ ((l.drop n).take 2).reverse ++ (l.drop n).drop 2)))]) ?_ (.cons .nil) (Nat.le_of_ble_eq_true rfl))) (o_cat (Nat.le_of_ble_eq_true rfl)))) (ev_var rfl) (o_ixL e5)) (okr_0 (q _ _ (.mk hl hc hc2 ha hz a5 z5 k3)) (by rw [List.length_set]; exact So.len))
  refine eva_cons (Ev.is (ev_op (ev_op (ev_var rfl) (ev_rvS (ev_slS (ev_var rfl) eo_none (eo_some ev_int) (by omega) (TK 2)) eo_m1 (by rw [List.length_take]; omega)) (o_addS (by omega))) (ev_slS (ev_var rfl) (eo_some ev_int) eo_none (by omega) (DR 2)) (o_addS (by rw [E1]; have := ld1 2; omega))) (by rw [SX.S_cat, SX.S_cat])) eva_nil
end
end K05
namespace Ks
open PySem SX TL Km
open Classical
def sfB (n : Int) : Bool := (List.range 1001).all fun t => decide (t < 2) || decide (n.toNat % (t * t) ≠ 0)
theorem sf_B {n : Int} (h1 : 1 ≤ n) (h2 : n ≤ 1000000) : sf n = sfB n := by
  rw [Bool.eq_iff_iff]
  unfold sf sfB
  rw [decide_eq_true_eq, List.all_eq_true]
  constructor
  · intro p t ht
    have := p.free t
    by_cases c : t < 2
    · simp [c]
    · have := this (by omega)
      rw [Nat.dvd_iff_mod_eq_zero] at this
      simp [c, this]
  · intro h
    refine ⟨by simp, Nat.le_refl _, by omega, fun t ht hd => ?_⟩
    have t3 : t < 1001 := by
      have := Nat.le_of_dvd (by omega) hd
      rcases Nat.lt_or_ge t 1001 with q | q
      · exact q
      · have := Nat.mul_le_mul q q
        omega
    have := h t (List.mem_range.mpr t3)
    rw [decide_eq_false (by omega : ¬ t < 2), Bool.false_or, decide_eq_true_eq] at this
    exact this (Nat.mod_eq_zero_of_dvd hd)
def rOkC (a b : Option FF) (u : Option Int) : Bool := match a, b, u with
  | some _, some b, some n => decide (1 ≤ n) && decide (n ≤ 1000000) && (decide (n = 1) == (decide (b.1 = 0) && decide (b.2 = 1))) && sfB n
  | _, _, _ => false
theorem rOk_C (a b : Option FF) (u : Option Int) : rOk a b u = rOkC a b u := by
  cases a with
  | none => rfl
  | some a =>
    cases b with
    | none => rfl
    | some b =>
      cases u with
      | none => rfl
      | some n =>
        show (decide (1 ≤ n) && decide (n ≤ 1000000) && (decide (n = 1) == decide (b = (0, 1))) && sf n) = (decide (1 ≤ n) && decide (n ≤ 1000000) && (decide (n = 1) == (decide (b.1 = 0) && decide (b.2 = 1))) && sfB n)
        have e : decide (b = (0, 1)) = (decide (b.1 = 0) && decide (b.2 = 1)) := by
          rw [Bool.eq_iff_iff, decide_eq_true_eq, Bool.and_eq_true, decide_eq_true_eq, decide_eq_true_eq]
          exact Prod.ext_iff
        rw [e]
        by_cases c : 1 ≤ n ∧ n ≤ 1000000
        · rw [sf_B c.1 c.2]
        · by_cases c1 : 1 ≤ n
          · have c2 : ¬ n ≤ 1000000 := fun z => c ⟨c1, z⟩
            simp [c2]
          · simp [c1]
/-- a text that is no ROOT's, by figures -/
def noC (l : List Nat) : Bool := match candA l, candB l, candU l with
  | some a, some b, some u => !(rOkC (some a) (some b) (some u)) || !decide ((if (decide (b.1 = 0) && decide (b.2 = 1)) = true then ftx a.1 a.2 else (if (decide (a.1 = 0) && decide (a.2 = 1)) = true then [] else ftx a.1 a.2 ++ [32]) ++ (ftx b.1 b.2 ++ 114 :: ntx u)) = l)
  | _, _, _ => true
theorem prog_no {l : List Nat} (h : noC l = true) : progR l = none := by
  unfold progR
  unfold noC at h
  cases eA : candA l with
  | none => exact take_no
  | some a =>
    cases eB : candB l with
    | none => exact take_nb
    | some b =>
      cases eU : candU l with
      | none => exact take_nu
      | some u =>
        rw [eA, eB, eU] at h
        have h : (!(rOkC (some a) (some b) (some u)) || !decide ((if (decide (b.1 = 0) && decide (b.2 = 1)) = true then ftx a.1 a.2 else (if (decide (a.1 = 0) && decide (a.2 = 1)) = true then [] else ftx a.1 a.2 ++ [32]) ++ (ftx b.1 b.2 ++ 114 :: ntx u)) = l)) = true := h
        have e : ∀ b : FF, ((decide (b.1 = 0) && decide (b.2 = 1)) = true) ↔ b = (0, 1) := fun b => by
          rw [Bool.and_eq_true, decide_eq_true_eq, decide_eq_true_eq]
          exact ⟨fun h => Prod.ext h.1 h.2, fun h => by rw [h]; exact ⟨rfl, rfl⟩⟩
        rw [take_3, if_neg]
        rintro ⟨h1, h2⟩
        rw [rOk_C] at h1
        rw [h1] at h
        have h3 : ¬ (if (decide (b.1 = 0) && decide (b.2 = 1)) = true then ftx a.1 a.2 else (if (decide (a.1 = 0) && decide (a.2 = 1)) = true then [] else ftx a.1 a.2 ++ [32]) ++ (ftx b.1 b.2 ++ 114 :: ntx u)) = l := by simpa using h
        refine h3 ?_
        rw [← h2]
        unfold rtx
        simp only [e]
/-- a ROOT's text is read as just that -/
theorem prog_rtx {a b : FF} {u : Int} (a1 : 0 < a.2) (a2 : Nat.gcd a.1.natAbs a.2.natAbs = 1) (b1 : 0 < b.2) (b2 : Nat.gcd b.1.natAbs b.2.natAbs = 1) (h : rOk (some a) (some b) (some u) = true) : progR (rtx a b u) = some (a, b, u) := by
  have T : take (rtx a b u) (some a) (some b) (some u) = some (a, b, u) := by rw [take_3, if_pos ⟨h, rfl⟩]
  have h' : (decide (1 ≤ u) && decide (u ≤ 1000000) && (decide (u = 1) == decide (b = (0, 1))) && sf u) = true := h
  have fA : fracOr (ftx a.1 a.2) = some a := fracOr_ftx a1 a2
  have fB : fracOr (ftx b.1 b.2) = some b := fracOr_ftx b1 b2
  by_cases c : b = (0, 1)
  · have e : rtx a b u = ftx a.1 a.2 := by unfold rtx; rw [if_pos c]
    have u1 : u = 1 := by
      rw [decide_eq_true c] at h'
      simp at h'
      exact h'.1.2
    rw [e] at T ⊢
    have nr := (ftx_no a.1 a.2).1
    have ns := (ftx_no a.1 a.2).2
    have et : tailOf (ftx a.1 a.2) = ftx a.1 a.2 := by unfold tailOf; rw [rcut_no ns]
    have eA : candA (ftx a.1 a.2) = some a := by
      unfold candA
      rw [rcut_no ns]
      show (match cut1 114 (ftx a.1 a.2) with | none => fracOr (ftx a.1 a.2) | some _ => some (0, 1)) = _
      rw [cut1_no nr]
      exact fA
    have eB : candB (ftx a.1 a.2) = some b := by unfold candB; rw [et, cut1_no nr, c]
    have eU : candU (ftx a.1 a.2) = some u := by unfold candU; rw [et, cut1_no nr, u1]
    unfold progR
    rw [eA, eB, eU]
    exact T
  · have e : rtx a b u = (if a = (0, 1) then [] else ftx a.1 a.2 ++ [32]) ++ (ftx b.1 b.2 ++ 114 :: ntx u) := by unfold rtx; rw [if_neg c]
    have nb := ftx_no b.1 b.2
    have nu := ntx_sl u
    have n32 : 32 ∉ ftx b.1 b.2 ++ 114 :: ntx u := by
      simp only [List.mem_append, List.mem_cons, not_or]
      exact ⟨nb.2, by decide, nu.2.2⟩
    have ec : cut1 114 (ftx b.1 b.2 ++ 114 :: ntx u) = some (ftx b.1 b.2, ntx u) := cut1_mk _ nb.1
    by_cases ca : a = (0, 1)
    · rw [if_pos ca, List.nil_append] at e
      rw [e] at T ⊢
      have et : tailOf (ftx b.1 b.2 ++ 114 :: ntx u) = ftx b.1 b.2 ++ 114 :: ntx u := by unfold tailOf; rw [rcut_no n32]
      have eA : candA (ftx b.1 b.2 ++ 114 :: ntx u) = some a := by
        unfold candA
        rw [rcut_no n32]
        show (match cut1 114 (ftx b.1 b.2 ++ 114 :: ntx u) with | none => fracOr (ftx b.1 b.2 ++ 114 :: ntx u) | some _ => some (0, 1)) = _
        rw [ec, ca]
      have eB : candB (ftx b.1 b.2 ++ 114 :: ntx u) = some b := by unfold candB; rw [et, ec]; exact fB
      have eU : candU (ftx b.1 b.2 ++ 114 :: ntx u) = some u := by unfold candU; rw [et, ec]; exact numIn_ntx u
      unfold progR
      rw [eA, eB, eU]
      exact T
    · rw [if_neg ca, List.append_assoc, List.singleton_append] at e
      rw [e] at T ⊢
      have er : rcut 32 (ftx a.1 a.2 ++ 32 :: (ftx b.1 b.2 ++ 114 :: ntx u)) = some (ftx a.1 a.2, ftx b.1 b.2 ++ 114 :: ntx u) := rcut_mk n32
      have et : tailOf (ftx a.1 a.2 ++ 32 :: (ftx b.1 b.2 ++ 114 :: ntx u)) = ftx b.1 b.2 ++ 114 :: ntx u := by unfold tailOf; rw [er]
      have eA : candA (ftx a.1 a.2 ++ 32 :: (ftx b.1 b.2 ++ 114 :: ntx u)) = some a := by
        unfold candA
        rw [er]
        show (match cut1 114 (ftx b.1 b.2 ++ 114 :: ntx u) with | none => fracOr (ftx a.1 a.2 ++ 32 :: (ftx b.1 b.2 ++ 114 :: ntx u)) | some _ => fracOr (ftx a.1 a.2)) = _
        rw [ec]
        exact fA
      have eB : candB (ftx a.1 a.2 ++ 32 :: (ftx b.1 b.2 ++ 114 :: ntx u)) = some b := by unfold candB; rw [et, ec]; exact fB
      have eU : candU (ftx a.1 a.2 ++ 32 :: (ftx b.1 b.2 ++ 114 :: ntx u)) = some u := by unfold candU; rw [et, ec]; exact numIn_ntx u
      unfold progR
      rw [eA, eB, eU]
      exact T
def odds : List (List Nat) := [[], [114, 50], [49, 114], [49, 114, 49], [49, 114, 52], [49, 114, 49, 50], [48, 114, 50], [48, 32, 49, 114, 50], [49, 32, 114, 50], [49, 32, 32, 49, 114, 50], [49, 114, 50, 32, 49], [49, 114, 45, 50], [49, 114, 50, 114, 51], [49, 114, 48, 50]]
def odds2 : List (List Nat) := [[32, 49, 114, 50], [50, 47, 52, 114, 51], [49, 47, 49, 114, 51], [49, 114, 50, 47, 49], [49, 32, 50], [82, 50], [49, 42, 114, 50], [49, 114, 49, 48, 48, 48, 48, 48, 51], [49, 32, 49, 114, 49, 48, 48, 48, 48, 48, 49]]
theorem odds_no : ∀ l ∈ odds ++ odds2, noC l = true := by decide +kernel
theorem fine1 : progR [45, 49, 114, 50] = some ((0, 1), (-1, 1), 2) := by
  have e : rtx (0, 1) (-1, 1) 2 = [45, 49, 114, 50] := by decide +kernel
  rw [← e]
  exact prog_rtx (a := (0, 1)) (b := (-1, 1)) (u := 2) (by decide) (by decide) (by decide) (by decide) (by rw [rOk_C]; decide +kernel)
theorem fine2 : progR [49, 47, 50, 32, 45, 51, 47, 50, 114, 53] = some ((1, 2), (-3, 2), 5) := by
  have e : rtx (1, 2) (-3, 2) 5 = [49, 47, 50, 32, 45, 51, 47, 50, 114, 53] := by decide +kernel
  rw [← e]
  exact prog_rtx (a := (1, 2)) (b := (-3, 2)) (u := 5) (by decide) (by decide) (by decide) (by decide) (by rw [rOk_C]; decide +kernel)
theorem fine3 : progR [45, 51] = some ((-3, 1), (0, 1), 1) := by
  have e : rtx (-3, 1) (0, 1) 1 = [45, 51] := by decide +kernel
  rw [← e]
  exact prog_rtx (a := (-3, 1)) (b := (0, 1)) (u := 1) (by decide) (by decide) (by decide) (by decide) (by rw [rOk_C]; decide +kernel)
theorem fine4 : progR [48] = some ((0, 1), (0, 1), 1) := by
  have e : rtx (0, 1) (0, 1) 1 = [48] := by decide +kernel
  rw [← e]
  exact prog_rtx (a := (0, 1)) (b := (0, 1)) (u := 1) (by decide) (by decide) (by decide) (by decide) (by rw [rOk_C]; decide +kernel)
theorem fine5 : progR [49, 114, 57, 57, 57, 57, 56, 51] = some ((0, 1), (1, 1), 999983) := by
  have e : rtx (0, 1) (1, 1) 999983 = [49, 114, 57, 57, 57, 57, 56, 51] := by decide +kernel
  rw [← e]
  exact prog_rtx (a := (0, 1)) (b := (1, 1)) (u := 999983) (by decide) (by decide) (by decide) (by decide) (by rw [rOk_C]; decide +kernel)
end Ks
namespace Pw
open PySem L2
section
variable {K : Fg} {ρ ρ' : En} {s s1 s2 s3 : Sto} {x y z : Dx} {xs : List Dx} {te tb : TE} {tas ta : TA} {n m l : Nat} {M0 M : List Addr} {H0 H : Hp} {F : Kp} {D : Ends} {X : Cx} {i j : Int} {b : Bool}
/-- n = f(..) if t else e, of f a relation alone being known -/
theorem w_asgIfP {t : TT} {R : Gr} {E : XK} (h : EvT K t ρ s b s1) (h1 : b = true → Eva K tas ρ s1 xs s2 ∧ ∃ x s', R xs s2 x s') (h2 : b = false → Ev K tb ρ s1 y s3)
    (k1 : b = true → ∀ x s4, R xs s2 x s4 → W K M0 H0 F D.nx (ρ.set n (some x)) s4) (k2 : b = false → W K M0 H0 F D.nx (ρ.set n (some y)) s3) : W K M0 H0 F (tAsg (tIf t (tCall (spP K R) [] E tas) tb) (gName n) D) ρ s := fun M σ H Rl =>
  h M σ H Rl.so Rl.re _ fun H1 e1 S1 => by
    cases b with
    | true =>
      obtain ⟨ha, hR⟩ := h1 rfl
      exact ha M σ H1 S1 (Rl.re.mono e1) _ fun vs H2 e2 S2 r2 => ⟨M, xs, s2, hR, S2, by rw [List.append_nil]; exact r2, fun x s4 hx v H3 e3 S3 r3 => k1 rfl x s4 hx M _ H3 ((Rl.step ((e1.trans e2).trans e3) S3).set r3)⟩
    | false => exact h2 rfl M σ H1 S1 (Rl.re.mono e1) _ fun v H2 e2 S2 r2 => k2 rfl M _ H2 ((Rl.step (e1.trans e2) S2).set r2)
end
end Pw
namespace K05
open PySem L2 Pw
open SX (S)
open Ks (ntx ftx numIn fracOr unm dig figs val rOk rtx sf FF progR readF lawR)
open Km
theorem Lq.trans {a b c : En} (h : Lq a b) (h2 : Lq b c) : Lq a c := by
  induction h generalizing c with
  | nil => cases h2; exact .nil
  | same h ih =>
    cases h2 with
    | same h2 => exact .same (ih h2)
    | none h2 => exact .none (ih h2)
  | none h ih =>
    cases h2 with
    | same h2 => exact .none (ih h2)
    | none h2 => exact .none (ih h2)
theorem lay_S {l : List Nat} (h : asc l) : PyData.canLay0 (.str (S l)) = true := by
  have := sh_S h
  have h2 : (PyData.canLay0 (.str (S l)) && decide (PyData.depth (.str (S l)) ≤ 64)) = true := this
  rw [Bool.and_eq_true] at h2
  exact h2.1
theorem ntx_len8 {i : Int} (h : Sm 26 i) : (ntx i).length ≤ 9 := by
  have h8 : i.natAbs < 10 ^ 8 := Nat.lt_trans h.lt (by decide)
  have := TL.numL_len (k := 8) (by decide) h8
  unfold ntx
  split
  · rw [List.length_cons]; omega
  · omega
theorem ftx_len8 {a b : Int} (h : Sm 26 a) (h2 : Sm 26 b) : (ftx a b).length ≤ 19 := by
  have l1 := ntx_len8 h
  have l2 := ntx_len8 h2
  unfold ftx
  split
  · omega
  · rw [List.length_append, List.length_cons]; omega
theorem rtx_len8 {a b : FF} {u : Int} (a1 : Sm 26 a.1) (a2 : Sm 26 a.2) (b1 : Sm 26 b.1) (b2 : Sm 26 b.2) (hu : Sm 26 u) : (rtx a b u).length ≤ 49 := by
  have l1 := ftx_len8 a1 a2
  have l2 := ftx_len8 b1 b2
  have l3 := ntx_len8 hu
  unfold rtx
  split
  · omega
  · split
    · rw [List.nil_append, List.length_append, List.length_cons]; omega
    · simp only [List.length_append, List.length_cons, List.length_nil]; omega
theorem asc_rtx (a b : FF) (u : Int) : asc (rtx a b u) := by
  have h1 := asc_ftx a.1 a.2
  have h2 := asc_ftx b.1 b.2
  have h3 := asc_ntx u
  unfold rtx
  split
  · exact h1
  · refine asc_app.mpr ⟨?_, asc_app.mpr ⟨h2, asc_cons.mpr ⟨by decide, h3⟩⟩⟩
    split
    · rfl
    · exact asc_app.mpr ⟨h1, rfl⟩
/-- a ROOT of small parts -/
structure Rsm (x y : FF) (u : Int) : Prop where
  xp : 0 < x.2
  xg : Nat.gcd x.1.natAbs x.2.natAbs = 1
  yp : 0 < y.2
  yg : Nat.gcd y.1.natAbs y.2.natAbs = 1
  ok : rOk (some x) (some y) (some u) = true
  x1 : Sm 26 x.1
  x2 : Sm 26 x.2
  y1 : Sm 26 y.1
  y2 : Sm 26 y.2
  us : Sm 26 u
theorem z60 {i : Int} (h : Sm 26 i) : i.natAbs < 10 ^ 60 := Nat.lt_trans h.lt (by decide)
theorem g1 {a b : Int} (h : isF (q2 a b) = true) : Nat.gcd a.natAbs b.natAbs = 1 := by
  have h' : (decide (0 < b) && (((Nat.gcd a.natAbs b.natAbs : Nat) : Int) == 1)) = true := h
  rw [Bool.and_eq_true, beq_iff_eq] at h'
  have := h'.2
  omega
theorem oR_mk {x y : FF} {u : Int} : oR (x, y, u) = t3 (q2 x.1 x.2) (q2 y.1 y.2) (.int u) := rfl
theorem due_sm {a1 a2 b1 b2 : Int} {m : Nat} {d : PyData} (ha : Lf 7 a1 a2) (hb : Lf 5 b1 b2) (hm : m ≤ 1000) (h : Due a1 a2 b1 b2 m d) : ∃ x y u, d = oR (x, y, u) ∧ Rsm x y u := by
  have ap := ha.pos
  have bp := hb.pos
  have kk : b2 * 1 ≠ 0 := by omega
  have one : Sm 1 (1 : Int) := .of 1 (by decide)
  have zer : Sm 1 (0 : Int) := .of 0 (by decide)
  have bd : ∀ a u : Nat, Prt m a u → Sm 10 (a : Int) ∧ Sm 10 (u : Int) := fun a u p => by
    have h1 : a * 1 ≤ a * a * u := by
      have := Nat.mul_le_mul_left a (Nat.mul_pos p.s1 p.u1)
      rwa [← Nat.mul_assoc] at this
    have h2 : 1 * u ≤ a * a * u := Nat.mul_le_mul_right u (Nat.mul_pos p.s1 p.s1)
    have := p.eq
    exact ⟨.of 1000 (by rw [Int.natAbs_natCast]; omega), .of 1000 (by rw [Int.natAbs_natCast]; omega)⟩
  cases h with
  | z h _ => exact ⟨(a1, a2), (0, 1), 1, rfl, ap, g1 ha.lo, by decide, by decide, Ks.rOk_n1, ha.sa.mono, ha.sb.mono, zer.mono, one.mono, one.mono⟩
  | @one a p hb0 _ =>
    have sp : 0 < shD b1 b2 a := lwD_pos kk
    have k3 : a2 * shD b1 b2 a ≠ 0 := Int.mul_ne_zero (by omega) (by omega)
    have L : Lf 15 (shN b1 b2 a) (shD b1 b2 a) := Lf.lw (n := 15) (m := 6) kk (hb.sa.mul (bd a 1 p).1) (hb.sb.mul one)
    have s1 : Sm 22 (a1 * shD b1 b2 a) := ha.sa.mul L.sb
    have s2 : Sm 22 (shN b1 b2 a * a2) := L.sa.mul ha.sb
    have L2 : Lf 26 (lwN (a1 * shD b1 b2 a + shN b1 b2 a * a2) (a2 * shD b1 b2 a)) (lwD (a1 * shD b1 b2 a + shN b1 b2 a * a2) (a2 * shD b1 b2 a)) := Lf.lw (n := 23) (m := 22) k3 (s1.add s2) (ha.sb.mul L.sb)
    exact ⟨(lwN (a1 * shD b1 b2 a + shN b1 b2 a * a2) (a2 * shD b1 b2 a), lwD (a1 * shD b1 b2 a + shN b1 b2 a * a2) (a2 * shD b1 b2 a)), (0, 1), 1, rfl, L2.pos, g1 L2.lo, by decide, by decide, Ks.rOk_n1, L2.sa, L2.sb, zer.mono, one.mono, one.mono⟩
  | @two a u p hb0 hu _ =>
    have L : Lf 15 (lwN (b1 * a) (b2 * 1)) (lwD (b1 * a) (b2 * 1)) := Lf.lw (n := 15) (m := 6) kk (hb.sa.mul (bd a u p).1) (hb.sb.mul one)
    have nz := lwN_nz (u := b1 * a) (v := b2 * 1) (Int.mul_ne_zero hb0 (by have := p.s1; omega)) kk
    have u6 : u ≤ 1000 := by
      have h2 : 1 * u ≤ a * a * u := Nat.mul_le_mul_right u (Nat.mul_pos p.s1 p.s1)
      have := p.eq
      omega
    refine ⟨(a1, a2), (lwN (b1 * a) (b2 * 1), lwD (b1 * a) (b2 * 1)), (u : Int), rfl, ap, g1 ha.lo, L.pos, g1 L.lo, ?_, ha.sa.mono, ha.sb.mono, L.sa.mono, L.sb.mono, (bd a u p).2.mono⟩
    show (decide (1 ≤ (u : Int)) && decide ((u : Int) ≤ 1000000) && (decide ((u : Int) = 1) == decide ((lwN (b1 * a) (b2 * 1), lwD (b1 * a) (b2 * 1)) = ((0 : Int), (1 : Int)))) && sf (u : Int)) = true
    have s : sf (u : Int) = true := by
      rw [sf_prt (s := 1) (u := u) ⟨by simp, Nat.le_refl _, p.u1, p.free⟩]
      simp
    have u1 := p.u1
    rw [s, decide_eq_true (show (1 : Int) ≤ u by omega), decide_eq_true (show (u : Int) ≤ 1000000 by omega), decide_eq_false (show ¬ (u : Int) = 1 by omega), decide_eq_false (fun e => nz (congrArg Prod.fst e))]
    rfl
theorem due_ex {a1 a2 b1 b2 : Int} {m : Nat} (hm : m ≤ 1000000) : ∃ d, Due a1 a2 b1 b2 m d := by
  by_cases c : m = 0 ∨ b1 = 0
  · exact ⟨_, .z c hm⟩
  · obtain ⟨a, u, p⟩ := Prt.ex m m (Nat.le_refl _) (by omega)
    by_cases e : u = 1
    · subst e
      exact ⟨_, .one p (by omega) hm⟩
    · exact ⟨_, .two p (by omega) e hm⟩
/-- all that's wanted of a drawn ROOT -/
theorem root_ex {a1 a2 b1 b2 : Int} {m : Nat} (ha : Lf 7 a1 a2) (hb : Lf 5 b1 b2) (hm : m ≤ 1000) : ∃ r l, asc l ∧ l.length ≤ 49 ∧ progR l = some r ∧
    (∀ s, R_rooted [.d (q2 a1 a2), .d (q2 b1 b2), .d (.int (m : Int))] s (.d (oR r)) s) ∧ (∀ s, R_written [.d (oR r)] s (.d (.str (S l))) s) ∧ (∀ s, R_rtext [.d (oR r)] s (.d (.str (S l))) s) := by
  obtain ⟨d, D⟩ := due_ex (a1 := a1) (a2 := a2) (b1 := b1) (b2 := b2) (m := m) (by omega)
  obtain ⟨x, y, u, rfl, R⟩ := due_sm ha hb hm D
  have gz : ∀ {z : FF}, 0 < z.2 → Nat.gcd z.1.natAbs z.2.natAbs = 1 → z.1 = 0 → z.2 = 1 := fun {z} p g e => by
    rw [e] at g
    simp at g
    omega
  exact ⟨(x, y, u), rtx x y u, asc_rtx x y u, rtx_len8 R.x1 R.x2 R.y1 R.y2 R.us, Ks.prog_rtx R.xp R.xg R.yp R.yg R.ok, fun s => .mk ⟨ha.sa.mono, ha.sb.mono, ha.lo⟩ ⟨hb.sa.mono, hb.sb.mono, hb.lo⟩ D,
    fun s => .mk R.xp R.yp (gz R.xp R.xg) (gz R.yp R.yg) (z60 R.x1) (z60 R.x2) (z60 R.y1) (z60 R.y2) (z60 R.us), fun s => .mk (z60 R.x1) (z60 R.x2) (z60 R.y1) (z60 R.y2) (z60 R.us)⟩
/-- what is told of a text, either way, and what is due -/
theorem told_ex {l : List Nat} (h : asc l) (hz : l.length < 60) : ∃ d, (∀ (t : Int) s, R_told [.d (.str (S l)), .d (.int t)] s (.d d) s) ∧ (∀ s, R_read [.d (.str (S l))] s (.d (oL (lawR l))) s) ∧
    ((lawR l = none ∧ d = .tuple [.str "refused", .str (S l)]) ∨ ∃ r, lawR l = some r ∧ d = oR r) ∧ (∀ s, R_same 7 [.d d, .d d] s (.d (.bool true)) s) := by
  have lr : PyData.canLay0 (.str "refused") = true := by decide +kernel
  cases e : lawR l with
  | none =>
    refine ⟨_, fun t s => .no h hz (by rw [Ks.root_same, e]), fun s => by rw [← e]; exact .mk h (by omega), .inl ⟨rfl, rfl⟩, fun s => .mk ?_ (Nat.le_of_ble_eq_true rfl) (Nat.le_of_ble_eq_true rfl) (by decide)⟩
    have := lay_S h
    simp [PyData.canLay0, PyData.canLayAll0] at this lr ⊢
    exact ⟨lr, this⟩
  | some r =>
    obtain ⟨⟨x1, x2⟩, ⟨y1, y2⟩, u⟩ := r
    exact ⟨_, fun t s => .ok h hz (by rw [Ks.root_same, e]), fun s => by rw [← e]; exact .mk h (by omega), .inr ⟨_, rfl, rfl⟩, fun s => .mk rfl (Nat.le_of_ble_eq_true rfl) (Nat.le_of_ble_eq_true rfl) (by decide)⟩
theorem same_3 {l : List Nat} {r : FF × FF × Int} {s : Sto} (h : asc l) : R_same 7 [.d (.list [.str (S l), .str (S l), oR r]), .d (.list [.str (S l), .str (S l), oR r])] s (.d (.bool true)) s := by
  obtain ⟨⟨x1, x2⟩, ⟨y1, y2⟩, u⟩ := r
  refine .mk ?_ (Nat.le_of_ble_eq_true rfl) (Nat.le_of_ble_eq_true rfl) (by decide)
  have := lay_S h
  have e : PyData.canLay0 (oR ((x1, x2), (y1, y2), u)) = true := rfl
  simp [PyData.canLay0, PyData.canLayAll0] at this e ⊢
  exact ⟨this, e⟩
end K05
namespace K05
open PySem L2 Pw
open SX (S)
open Ks (ntx ftx rtx sf FF progR lawR odds odds2)
open Km
def fineL : List PyData := [oR ((0, 1), (-1, 1), 2), oR ((1, 2), (-3, 2), 5), oR ((-3, 1), (0, 1), 1), oR ((0, 1), (0, 1), 1)]
def fineL5 : List PyData := fineL ++ [oR ((0, 1), (1, 1), 999983)]
abbrev rb (ns : List Int) (k : Nat) : En := [some (.scr ns), some (.d (.int (k : Int))), some (.loc 0), none, none, none, none, none, none, none, none, none]
abbrev rl (ns : List Int) (k : Nat) (i : Int) (l : List Nat) : En := [some (.scr ns), some (.d (.int (k : Int))), some (.loc 0), some (.d (.int i)), none, none, some (.d (.str (S l))), none, none, none, none, none]
theorem bx_inj {b b' : Bx} (h : bxl b = bxl b') : b = b' := by
  obtain ⟨x, y, z⟩ := b
  obtain ⟨x', y', z'⟩ := b'
  injection h with h1 h
  injection h with h2 h
  injection h with h3 h
  injection h1 with h1
  injection h2 with h2
  injection h3 with h3
  subst h1 h2 h3
  rfl
theorem bent_out {b : Bx} {l : List Nat} {x : Dx} {s2 : Sto} {e : Nat} (hx : R_bent [.loc 0, .d (.str (S l))] [bxl b] x s2) (hk : Bk e b) : ∃ l6 b6, x = .d (.str (S l6)) ∧ s2 = [bxl b6] ∧ asc l6 ∧ l6.length ≤ l.length + 1 ∧ Bk (e + 3) b6 := by
  cases hx with
  | @mk _ b' b6 c' _ _ l6 hl0 hc1 hc2 ha1 hz1 ha6 hz6 hb6 =>
    have e1 : b = b' := bx_inj (Option.some.inj hl0)
    subst e1
    exact ⟨l6, b6, rfl, rfl, ha6, hz6, hb6 _ hk⟩
theorem lay_ref {l : List Nat} (h : asc l) : PyData.canLay0 (.tuple [.str "refused", .str (S l)]) = true := by
  have lr : PyData.canLay0 (.str "refused") = true := by decide +kernel
  have := lay_S h
  simp [PyData.canLay0, PyData.canLayAll0] at this lr ⊢
  exact ⟨lr, this⟩
theorem odd_asc : ∀ l ∈ odds ++ odds2, asc l ∧ l.length < 60 := by
  intro l h
  have : ∀ l ∈ odds ++ odds2, (l.all (· < 128) && decide (l.length < 60)) = true := by decide +kernel
  have := this l h
  rw [Bool.and_eq_true] at this
  exact ⟨this.1, of_decide_eq_true this.2⟩
section
local macro_rules | `(tactic| walk_at "sd") => `(tactic| first | rfl | assumption | exact Nat.le_of_ble_eq_true rfl | decide | omega | (walk_at "sd2"))
local macro_rules | `(tactic| walk_at "sd2") => `(tactic| first | exact cm_sm (by assumption) (by assumption) | exact cf_sm (by assumption) (by assumption) | ((with_reducible apply gs); (walk_at "sd")) | exact cm_fm7 | exact cm_if | exact cm_l (by omega) (by omega) | exact cm_r (by omega) (by omega) | exact cf_c (by omega) (by omega))
local macro_rules | `(tactic| walk_at "isi") => `(tactic| with_reducible first | exact kit_int | exact kit_bool | exact kit_tuple | exact kit_list | exact kit_str)
local macro_rules | `(tactic| walk_at "und") => `(tactic| with_reducible repeat (first | exact Und.nil | apply Und.cons))
local macro_rules | `(tactic| walk_at "op") => `(tactic| (first
  | with_reducible exact o_add | with_reducible exact o_minus | with_reducible exact o_lt | with_reducible exact o_gt | with_reducible exact o_le | with_reducible exact o_ge | with_reducible exact o_neg
  | with_reducible exact o_isN | with_reducible exact o_isntN | with_reducible exact o_isB | with_reducible exact o_isntB | with_reducible exact o_neS | with_reducible exact o_eqS
  | with_reducible exact o_abs | with_reducible exact o_intB | with_reducible exact o_min2 | with_reducible exact o_max2 | with_reducible exact o_lenL | with_reducible exact o_lenT | with_reducible exact o_lenC | with_reducible exact o_gcd
  | with_reducible apply o_ixT | with_reducible apply o_ixL | with_reducible apply o_ixM | with_reducible apply o_ixS | with_reducible apply o_lenM
  | with_reducible apply o_mul | with_reducible apply o_fdiv | with_reducible apply o_mod | with_reducible apply o_pow | with_reducible apply o_eq | with_reducible apply o_ne | with_reducible apply o_catT | with_reducible apply o_repr | with_reducible apply o_all) <;> walk_at "sd")
local macro_rules | `(tactic| walk_at "opn") => `(tactic| (first
  | with_reducible apply o_cat | with_reducible apply o_repI | with_reducible exact o_listT | with_reducible exact o_listL) <;> walk_at "sd")
local macro_rules | `(tactic| walk_at "ea") => `(tactic| first
  | with_reducible exact eva_nil
  | ((with_reducible apply eva_cons); (walk_at "ev"); (walk_at "ea")))
local macro_rules | `(tactic| walk_at "call") => `(tactic| fail)
local macro_rules | `(tactic| walk_at "evn") => `(tactic| first
  | ((with_reducible apply evn_lstU); (walk_at "ea"); (walk_at "und"); (walk_at "sd"))
  | ((with_reducible apply evn_op); (walk_at "ev"); (walk_at "ev"); (walk_at "opn"))
  | ((with_reducible apply evn_cb); (walk_at "ea"); (walk_at "opn"))
  | ((with_reducible apply evn_call); (walk_at "ea"); (walk_at "call")))
local macro_rules | `(tactic| walk_at "ev") => `(tactic| first
  | with_reducible exact ev_int | with_reducible exact ev_bl | with_reducible exact ev_non | with_reducible exact ev_str
  | ((with_reducible apply ev_var); rfl)
  | ((with_reducible apply ev_op); (walk_at "ev"); (walk_at "ev"); (walk_at "op"))
  | ((with_reducible apply ev_un); (walk_at "ev"); (walk_at "op"))
  | ((with_reducible apply ev_call); (walk_at "ea"); (walk_at "call"))
  | ((with_reducible apply ev_callD); (walk_at "ea"); (intro _ _; exact rxs_1); (walk_at "call"))
  | ((with_reducible apply ev_callK); (walk_at "ea"); rfl; (intro _ _ _ hh; first | exact rxs_swap2 hh | exact rxs_same1 hh); (walk_at "call"))
  | ((with_reducible apply ev_isi); (walk_at "ev"); (walk_at "isi"))
  | ((with_reducible apply ev_isi2); (walk_at "ev"); (walk_at "isi"); (walk_at "isi"))
  | ((with_reducible apply ev_cb); (walk_at "ea"); (walk_at "op"))
  | ((with_reducible apply ev_tupU); (walk_at "ea"); (walk_at "und"); (walk_at "sd"))
  | ((with_reducible apply ev_new); (walk_at "evn"))
  | ((with_reducible apply ev_slT); (walk_at "ev"); (walk_at "eo"); (walk_at "eo"))
  | ((with_reducible apply ev_andV); (walk_at "ev"); (intro _; walk_at "ev"); (intro _; rfl))
  | ((with_reducible apply ev_orV); (walk_at "ev"); (intro _; walk_at "ev"); (intro _; rfl))
  | ((with_reducible apply ev_notV); (walk_at "ev")))
local macro_rules | `(tactic| walk_at "eo") => `(tactic| first
  | with_reducible exact eo_none
  | ((with_reducible apply eo_some); (walk_at "ev")))
local macro_rules | `(tactic| walk_at "et") => `(tactic| first
  | ((with_reducible apply et_test); (walk_at "ev"))
  | ((with_reducible apply et_B); (walk_at "ev"))
  | ((with_reducible apply et_not); (walk_at "et"))
  | ((with_reducible apply et_and); (walk_at "et"); (intro _; walk_at "et"); (intro _; rfl))
  | ((with_reducible apply et_or); (walk_at "et"); (intro _; walk_at "et"); (intro _; rfl)))
local macro_rules | `(tactic| walk_at "w") => `(tactic| first
  | (with_reducible apply w_seq)
  | (with_reducible apply w_next)
  | ((with_reducible apply w_asg); (walk_at "ev"))
  | ((with_reducible apply w_ret); (walk_at "ev"))
  | ((with_reducible apply w_drop); (walk_at "ev"))
  | ((with_reducible apply w_par); (walk_at "ea"))
  | ((with_reducible apply w_tup2); (walk_at "ev"))
  | ((with_reducible apply w_tup3); (walk_at "ev"))
  | ((with_reducible apply w_setI); (walk_at "ev"); (walk_at "ev"); (walk_at "ev"); (walk_at "sd"); (walk_at "sd"))
  | ((with_reducible apply w_if); (walk_at "et")))

local macro_rules | `(tactic| walk_at "call") => `(tactic| assumption)
variable {P : Program} {w : World} {K : Pw.Fg} {mg : Str → Option Value} {base : Heap} {f : Addr} {fd : FuncData} {ζ : ZA} {cdv : Value} {s : Shared} {H : Hp} {a : Addr} {ns : List Int}
theorem w_law (Z : Zx K mg ζ) (hl : ns.length ≤ 63) (hr : Room 8 (PySem.callerA.deeper (PyProof.Rows.envOfC "law" (defScope s_law) s.heap.objs.size f cdv)))
    (c__law_box : Cb P w K mg base "_law_box" 2 [] (spN K R_box)) (c__law_take : Cb P w K mg base "_law_take" 1 [] (spF K R_take)) (c__law_of : Cb P w K mg base "_law_of" 2 [] (spF K R_of)) (c__law_draw : Cb P w K mg base "_law_draw" 3 [] (spF K R_draw))
    (c_rooted : Cb P w K mg base "rooted" 3 [] (spF K R_rooted)) (c__law_written : Cb P w K mg base "_law_written" 2 [] (spF K R_written)) (c__law_same : Cb P w K mg base "_law_same" 7 [] (spF K (R_same 7)))
    (c_root_text : Cb P w K mg base "root_text" 4 [] (spF K R_rtext)) (k_root_text : Ck P w K mg base "root_text" 4 ["root"] same1 (spF K R_rtext)) (c__law_told : Cb P w K mg base "_law_told" 6 [] (spF K R_told))
    (c__law_bent : Cb P w K mg base "_law_bent" 3 [] (spP K R_bent)) (c__law_read : Cb P w K mg base "_law_read" 3 [] (spF K R_read)) (c_root_in : CbX P w K mg base "root_in" 5 (spX K R_rin (X_rin ζ)))
    (hS : SqL K H a (ns.map V.int)) :
    ∃ t, PSs (cxOf CX0 P w K mg base N_law "law" (defScope s_law) f cdv PySem.callerA [] s H E0).nox (defBody s_law) t ∧ t { nx := fun _ _ => False, rt := fun v _ => v = .bl true } (L2.start N_law [.ref a]) H := by
  have tk : Takes (cxOf CX0 P w K mg base N_law "law" (defScope s_law) f cdv PySem.callerA [] s H E0).nox (fun _ _ _ _ => False) := takes0
  refine ⟨_, (pss_cons (ps_for PassesOwn.never rfl (pi_range1 (by rfl) Z.z_range (pa_cons (pe_op (opk_plus (K := K)) (pe_int) (pe_callB (cb_min2 rfl) (by rfl) Z.z_min bt_min (pa_cons (pe_int) (pa_cons (pe_callB (cbk_len (K := K)) (by rfl) Z.z_len bt_len (pa_cons (pv 0) pa_nil)) pa_nil)))) pa_nil)) (pg_name (i := 1) sc_law.nd rfl (Or.inl rfl)) (pss_cons (ps_set (i := 2) sc_law.nd rfl (.inl rfl) (pe_cb c__law_box (hr.mono (by decide)) (by rfl) (pa_cons (pv 0) (pa_cons (pv 1) pa_nil))))
      (pss_one (ps_for PassesOwn.never rfl (pi_range1 (by rfl) Z.z_range (pa_cons (pe_int) pa_nil)) (pg_name (i := 3) sc_law.nd rfl (Or.inl rfl)) (pss_cons (ps_set (i := 4) sc_law.nd rfl (.inl rfl) (pe_ix (ixk (K := K)) (pe_lst (pa_cons (pe_cb c__law_take (hr.mono (by decide)) (by rfl) (pa_cons (pv 2) (pa_cons (pe_int) pa_nil))) (pa_cons (pe_cb c__law_take (hr.mono (by decide)) (by rfl) (pa_cons (pv 2) (pa_cons (pe_int) pa_nil))) pa_nil))) (pv 3) (fun _ _ => rfl)))
      (pss_cons (ps_set (i := 5) sc_law.nd rfl (.inl rfl) (pe_cb c_rooted (hr.mono (by decide)) (by rfl) (pa_cons (pe_cb c__law_of (hr.mono (by decide)) (by rfl) (pa_cons (pv 2) (pa_cons (pe_lst (pa_cons (pe_cb c__law_draw (hr.mono (by decide)) (by rfl) (pa_cons (pv 2) (pa_cons (pe_int) pa_nil))) (pa_cons (pe_tup (pa_cons (pe_int) (pa_cons (pe_int) pa_nil))) pa_nil))) pa_nil))) (pa_cons (pe_cb c__law_draw (hr.mono (by decide)) (by rfl) (pa_cons (pv 2) (pa_cons (pe_int) pa_nil))) (pa_cons (pv 4) pa_nil)))))
      (pss_cons (ps_set (i := 6) sc_law.nd rfl (.inl rfl) (pe_cb c__law_written (hr.mono (by decide)) (by rfl) (pa_cons (pv 5) pa_nil)))
      (pss_cons (ps_if (pt_not (pt_val (pe_cb c__law_same (hr.mono (by omega)) (by rfl) (pa_cons (pe_lst (pa_cons (pe_cb c_root_text (hr.mono (by decide)) (by rfl) (pa_cons (pv 5) pa_nil)) (pa_cons (pe_ck k_root_text (hr.mono (by decide)) (by rfl) (pk_cons (pv 5) pk_nil)) (pa_cons (pe_cb c__law_told (hr.mono (by decide)) (by rfl) (pa_cons (pv 6) (pa_cons (pe_int) pa_nil))) pa_nil)))) (pa_cons (pe_lst (pa_cons (pv 6) (pa_cons (pv 6) (pa_cons (pv 5) pa_nil)))) pa_nil))))) (pss_one (ps_ret (pe_bl))) pss_nil)
      (pss_one (ps_for PassesOwn.never rfl (pi_range1 (by rfl) Z.z_range (pa_cons (pe_int) pa_nil)) (pg_name (i := 7) sc_law.nd rfl (Or.inl rfl)) (pss_cons (ps_set (i := 8) sc_law.nd rfl (.inl rfl) (pe_cb c__law_bent (hr.mono (by decide)) (by rfl) (pa_cons (pv 2) (pa_cons (pv 6) pa_nil))))
      (pss_cons (ps_set (i := 8) sc_law.nd rfl (.inl rfl) (pe_ifExp (pt_cmpR (opk_eq (K := K) hr.units) (pe_cb c__law_take (hr.mono (by decide)) (by rfl) (pa_cons (pv 2) (pa_cons (pe_int) pa_nil))) (pe_int) (nomark _)) (pe_cb c__law_bent (hr.mono (by decide)) (by rfl) (pa_cons (pv 2) (pa_cons (pv 8) pa_nil))) (pv 8)))
      (pss_cons (ps_set (i := 9) sc_law.nd rfl (.inl rfl) (pe_cb c__law_read (hr.mono (by decide)) (by rfl) (pa_cons (pv 8) pa_nil)))
      (pss_one (ps_if (pt_not (pt_val (pe_cb c__law_same (hr.mono (by omega)) (by rfl) (pa_cons (pe_cb c__law_told (hr.mono (by decide)) (by rfl) (pa_cons (pv 8) (pa_cons (pe_op op_modA (pv 7) (pe_int)) pa_nil))) (pa_cons (pe_ifExp (pt_cmpR op_is (pv 9) (pe_non) (nomark _)) (pe_tup (pa_cons (pe_str) (pa_cons (pv 8) pa_nil))) (pv 9)) pa_nil))))) (pss_one (ps_ret (pe_bl))) pss_nil)))))))))))))))
      (pss_cons (ps_set (i := 10) sc_law.nd rfl (.inl rfl) (pe_lst (pa_cons (pe_str) (pa_cons (pe_str) (pa_cons (pe_str) (pa_cons (pe_str) (pa_cons (pe_str) (pa_cons (pe_str) (pa_cons (pe_str) (pa_cons (pe_str) (pa_cons (pe_str) (pa_cons (pe_str) (pa_cons (pe_str) (pa_cons (pe_str) (pa_cons (pe_str) (pa_cons (pe_str) pa_nil))))))))))))))))
      (pss_cons (ps_set (i := 10) sc_law.nd rfl (.inl rfl) (pe_op (opk_plus (K := K)) (pv 10) (pe_lst (pa_cons (pe_str) (pa_cons (pe_str) (pa_cons (pe_str) (pa_cons (pe_str) (pa_cons (pe_str) (pa_cons (pe_str) (pa_cons (pe_str) (pa_cons (pe_str) (pa_cons (pe_str) pa_nil))))))))))))
      (pss_cons (ps_set (i := 11) sc_law.nd rfl (.inl rfl) (pe_lst (pa_cons (pe_cbX c_root_in (hr.mono (by decide)) (by rfl) tk (pa_cons (pe_str) pa_nil)) (pa_cons (pe_cbX c_root_in (hr.mono (by decide)) (by rfl) tk (pa_cons (pe_str) pa_nil)) (pa_cons (pe_cbX c_root_in (hr.mono (by decide)) (by rfl) tk (pa_cons (pe_str) pa_nil)) (pa_cons (pe_cbX c_root_in (hr.mono (by decide)) (by rfl) tk (pa_cons (pe_str) pa_nil)) (pa_cons (pe_cbX c_root_in (hr.mono (by decide)) (by rfl) tk (pa_cons (pe_str) pa_nil)) pa_nil)))))))
      (pss_cons (ps_set (i := 9) sc_law.nd rfl (.inl rfl) (pe_lst (pa_cons (pe_tup (pa_cons (pe_tup (pa_cons (pe_int) (pa_cons (pe_int) pa_nil))) (pa_cons (pe_tup (pa_cons (pe_un un_negA (pe_int)) (pa_cons (pe_int) pa_nil))) (pa_cons (pe_int) pa_nil)))) (pa_cons (pe_tup (pa_cons (pe_tup (pa_cons (pe_int) (pa_cons (pe_int) pa_nil))) (pa_cons (pe_tup (pa_cons (pe_un un_negA (pe_int)) (pa_cons (pe_int) pa_nil))) (pa_cons (pe_int) pa_nil)))) (pa_cons (pe_tup (pa_cons (pe_tup (pa_cons (pe_un un_negA (pe_int)) (pa_cons (pe_int) pa_nil))) (pa_cons (pe_tup (pa_cons (pe_int) (pa_cons (pe_int) pa_nil))) (pa_cons (pe_int) pa_nil)))) (pa_cons (pe_tup (pa_cons (pe_tup (pa_cons (pe_int) (pa_cons (pe_int) pa_nil))) (pa_cons (pe_tup (pa_cons (pe_int) (pa_cons (pe_int) pa_nil))) (pa_cons (pe_int) pa_nil)))) pa_nil))))))
      (pss_cons (ps_expr (pe_bm PySem.F.plainAttrs_list PySem.F.slot_list_append PySem.F.type_list_append mt_append (pv 9) (pa_cons (pe_tup (pa_cons (pe_tup (pa_cons (pe_int) (pa_cons (pe_int) pa_nil))) (pa_cons (pe_tup (pa_cons (pe_int) (pa_cons (pe_int) pa_nil))) (pa_cons (pe_int) pa_nil)))) pa_nil)))
      (pss_one (ps_ret (pe_and (pe_cb c__law_same (hr.mono (by omega)) (by rfl) (pa_cons (pv 11) (pa_cons (pv 9) pa_nil))) (pe_one (pe_callB (cbk_all (K := K) rfl) (by rfl) Z.z_all bt_all (pa_cons (pe_lc (own := [("_law_line_here", 6)]) rfl sc_law.nd (pik_list (K := K) (pv 10)) (blkOk_by (own := [("_law_line_here", 6)]) (N := N_law) (sc := defScope s_law) (by decide +kernel)) (fun _ _ _ _ _ => (pg_name (i := 6) sc_law.nd rfl (Or.inl rfl))) (fun _ _ _ _ _ => pts_nil) (fun _ _ _ _ _ => pe_cmpR (opk_eq (K := K) hr.units) (pe_cb c__law_told (hr.mono (by decide)) (by rfl) (pa_cons (pv 6) (pa_cons (pe_int) pa_nil))) (pe_tup (pa_cons (pe_str) (pa_cons (pv 6) pa_nil))) (nomark _))) pa_nil)))))))))))), ?_⟩
  refine w_run so_nil (rxs_scr hS) ?_
  try simp only [nox_K, cx_K, List.map_cons, List.map_nil]
  walk_at "w"
  dsimp only
  refine w_forR (c := 1 + min 5 ns.length) (s1 := []) (ρ := rho0 N_law [.scr ns]) ?_ (by omega) (fun _ ρ s => s = [] ∧ ρ = rho0 N_law [.scr ns]) ⟨rfl, rfl⟩ ?_ ?_
  · with_reducible apply eva_cons
    · refine Ev.is (by walk_at "ev") ?_
      refine congrArg (fun i => Dx.d (.int i)) ?_
      show 1 + (if (ns.length : Int) < 5 then (ns.length : Int) else 5) = ((1 + min 5 ns.length : Nat) : Int)
      split <;> omega
    · exact eva_nil
  · rintro k ρ s2 N hk ⟨rfl, rfl⟩ hN
    walk_at "w"
    refine w_asgN (s1 := []) (ds := bxl (mkB (cell ns k) k)) ?_ ?_
    · with_reducible apply evn_call
      · walk_at "ea"
      · exact .mk (by omega)
    have hB : Bk 0 (mkB (cell ns k) k) := bk_mk
    generalize mkB (cell ns k) k = b0 at *
    dsimp only
    refine w_forR (c := 2) (s1 := [bxl b0]) ?_ (by decide) (fun i ρ s => ∃ b, Bk (200 * i) b ∧ s = [bxl b] ∧ Lq (rb ns k) ρ) ?_ ?_ ?_
    · exact eva_cons ev_int eva_nil
    · exact ⟨b0, hB, rfl, Lq.refl _⟩
    · rintro i ρ s2 N2 hi ⟨b, hc, rfl, hq⟩ hN2
      have hcc : 200 * i ≤ 200 := by omega
      generalize hcg : 200 * i = c at hc hcc
      refine w_wk (hq.set 3 (some (.d (.int (i : Int))))) ?_
      dsimp only [List.set]
      have T1 : R_take [.loc 0, .d (.int 40)] [bxl b] (.d (.int (tkR b 40))) [bxl (tkB b 40)] := R_take.mk (l := 0) (c := c) rfl (by decide) (by decide) hc (by omega)
      have r1 := tk_r (b := b) (n := 40) (by decide)
      have k1 : Bk (c + 1) (tkB b 40) := hc.next
      generalize tkR b 40 = m1 at *
      generalize tkB b 40 = b1 at *
      have T2 : R_take [.loc 0, .d (.int 1000)] [bxl b1] (.d (.int (tkR b1 1000))) [bxl (tkB b1 1000)] := R_take.mk (l := 0) (c := c + 1) rfl (by decide) (by decide) k1 (by omega)
      have r2 := tk_r (b := b1) (n := 1000) (by decide)
      have k2 : Bk (c + 2) (tkB b1 1000) := k1.next
      generalize tkR b1 1000 = m2 at *
      generalize tkB b1 1000 = b2 at *
      obtain ⟨m, hm, mz⟩ : ∃ m : Nat, atI [PyData.int m1, PyData.int m2] (i : Int) = some (.int (m : Int)) ∧ m ≤ 1000 := by
        obtain ⟨n1, e1⟩ := Int.eq_ofNat_of_zero_le r1.1
        obtain ⟨n2, e2⟩ := Int.eq_ofNat_of_zero_le r2.1
        rcases (show i = 0 ∨ i = 1 by omega) with rfl | rfl
        · exact ⟨n1, by rw [e1]; rfl, by omega⟩
        · exact ⟨n2, by rw [e2]; rfl, by omega⟩
      have D1 : R_draw [.loc 0, .d (.int 99)] [bxl b2] (.d (lw (drN b2 99) (drD b2 99))) [bxl (drB b2 99)] := R_draw.mk (l := 0) (c := c + 2) rfl (by decide) (by decide) k2 (by omega)
      have k3 := k2.draw (n := 99)
      have n1 := drN_le (b := b2) (n := 99) (by decide)
      have n2 := drD_le (b := b2) (n := 99)
      obtain ⟨a1, a2, ea, L1⟩ : ∃ a1 a2, lw (drN b2 99) (drD b2 99) = q2 a1 a2 ∧ Lf 7 a1 a2 := ⟨_, _, rfl, Lf.lw (n := 7) (m := 3) (by omega) (.of 99 (by omega)) (.of 4 (by omega))⟩
      rw [ea] at D1
      generalize drB b2 99 = b3 at *
      obtain ⟨dI, hI, mI⟩ := pick (ds := [q2 a1 a2, q2 0 1]) (b := b3) (Nat.le_of_ble_eq_true rfl)
      obtain ⟨c1, c2, rfl, L2⟩ : ∃ e1 e2, dI = q2 e1 e2 ∧ Lf 7 e1 e2 := by
        simp only [List.mem_cons, List.not_mem_nil, or_false] at mI
        rcases mI with h | h
        · exact ⟨_, _, h, L1⟩
        · exact ⟨_, _, h, ⟨.of 0 (by decide), .of 1 (by decide), rfl⟩⟩
      have O1 : R_of [.loc 0, .d (.list [q2 a1 a2, q2 0 1])] [bxl b3] (.d (q2 c1 c2)) [bxl (tkB b3 (([q2 a1 a2, q2 0 1].length : Nat) : Int))] := R_of.mk (l := 0) (c := c + 2 + 2) rfl (Nat.le_of_ble_eq_true rfl) (Nat.le_of_ble_eq_true rfl) k3 (by omega) hI
      have k4 := k3.next (n := (([q2 a1 a2, q2 0 1].length : Nat) : Int))
      generalize tkB b3 (([q2 a1 a2, q2 0 1].length : Nat) : Int) = b4 at *
      have D2 : R_draw [.loc 0, .d (.int 20)] [bxl b4] (.d (lw (drN b4 20) (drD b4 20))) [bxl (drB b4 20)] := R_draw.mk (l := 0) (c := c + 2 + 2 + 1) rfl (by decide) (by decide) k4 (by omega)
      have k5 := k4.draw (n := 20)
      have n3 := drN_le (b := b4) (n := 20) (by decide)
      have n4 := drD_le (b := b4) (n := 20)
      obtain ⟨d1, d2, ed, L3⟩ : ∃ a1 a2, lw (drN b4 20) (drD b4 20) = q2 a1 a2 ∧ Lf 5 a1 a2 := ⟨_, _, rfl, Lf.lw (n := 5) (m := 3) (by omega) (.of 20 (by omega)) (.of 4 (by omega))⟩
      rw [ed] at D2
      have k5 : Bk (c + 7) (drB b4 20) := k5.mono (by omega)
      generalize drB b4 20 = b5 at *
      obtain ⟨r, l, la, lz, pr, RR, RW, RT⟩ := root_ex L2 L3 mz
      have RR1 := RR [bxl b5]
      have RW1 := RW [bxl b5]
      have RT1 := RT [bxl b5]
      have TD1 : R_told [.d (.str (S l)), .d (.int 1)] [bxl b5] (.d (oR r)) [bxl b5] := .ok la (by omega) pr
      have SM1 := same_3 (l := l) (r := r) (s := [bxl b5]) la
      walk_at "w"
      refine w_asg (x := Dx.d (PyData.int (m : Int))) (s1 := [bxl b2]) (ev_op (ev_new (evn_lstU (ds := [PyData.int m1, PyData.int m2]) (xs := [Dx.d (PyData.int m1), Dx.d (PyData.int m2)]) (eva_cons (ev_call (eva_cons (ev_var rfl) (eva_cons ev_int eva_nil)) T1) (eva_cons (ev_call (eva_cons (ev_var rfl) (eva_cons ev_int eva_nil)) T2) eva_nil)) (.cons (.cons .nil)) (Nat.le_of_ble_eq_true rfl))) (ev_var rfl) (o_ixL hm)) ?_
      dsimp only [List.set]
      walk_at "w"
      refine w_asg (x := .d (oR r)) (s1 := [bxl b5]) (ev_call (eva_cons (ev_call (eva_cons (ev_var rfl) (eva_cons (ev_new (evn_lstU (xs := [.d (q2 a1 a2), .d (q2 0 1)]) (eva_cons (ev_call (eva_cons (ev_var rfl) (eva_cons ev_int eva_nil)) D1) (eva_cons (ev_tupU (eva_cons ev_int (eva_cons ev_int eva_nil)) (.cons (.cons .nil)) (Nat.le_of_ble_eq_true rfl)) eva_nil)) (.cons (.cons .nil)) (Nat.le_of_ble_eq_true rfl))) eva_nil)) O1) (eva_cons (ev_call (eva_cons (ev_var rfl) (eva_cons ev_int eva_nil)) D2) (eva_cons (ev_var rfl) eva_nil))) RR1) ?_
      dsimp only [List.set]
      walk_at "w"
      refine w_asg (x := .d (.str (S l))) (s1 := [bxl b5]) (ev_call (eva_cons (ev_var rfl) eva_nil) RW1) ?_
      dsimp only [List.set]
      walk_at "w"
      refine w_if (b := false) (s1 := [bxl b5]) (et_not (b := true) (et_test (ev_call (eva_cons (ev_new (evn_lstU (xs := [.d (.str (S l)), .d (.str (S l)), .d (oR r)]) (eva_cons (ev_call (eva_cons (ev_var rfl) eva_nil) RT1) (eva_cons (ev_callK (ys := [.d (oR r)]) (eva_cons (ev_var rfl) eva_nil) rfl (fun _ _ _ hh => rxs_same1 hh) RT1) (eva_cons (ev_call (eva_cons (ev_var rfl) (eva_cons ev_int eva_nil)) TD1) eva_nil))) (.cons (.cons (.cons .nil))) (Nat.le_of_ble_eq_true rfl))) (eva_cons (ev_new (evn_lstU (xs := [.d (.str (S l)), .d (.str (S l)), .d (oR r)]) (eva_cons (ev_var rfl) (eva_cons (ev_var rfl) (eva_cons (ev_var rfl) eva_nil))) (.cons (.cons (.cons .nil))) (Nat.le_of_ble_eq_true rfl))) eva_nil)) SM1))) (fun c => by cases c) ?_
      intro _
      try dsimp only
      refine w_wk (ρ' := rl ns k (i : Int) l) (.same (.same (.same (.same (.none (.none (.same (.none (.none (.none (.none (.none .nil)))))))))))) ?_
      refine w_forR (c := 16) (s1 := [bxl b5]) (eva_cons ev_int eva_nil) (by decide) (fun j ρ s => ∃ b, Bk (c + 7 + 7 * j) b ∧ s = [bxl b] ∧ Lq (rl ns k (i : Int) l) ρ) ⟨b5, k5, rfl, Lq.refl _⟩ ?_ ?_
      · rintro j ρ s2 N3 hj ⟨b, hc, rfl, hq⟩ hN3
        have hjj : 7 * j ≤ 105 := by omega
        generalize hcj : c + 7 + 7 * j = e at hc
        refine w_wk (hq.set 7 (some (.d (.int (j : Int))))) ?_
        dsimp only [List.set]
        walk_at "w"
        refine w_asgP (xs := [.loc 0, .d (.str (S l))]) (s1 := [bxl b]) (eva_cons (ev_var rfl) (eva_cons (ev_var rfl) eva_nil)) (bent_ex (k := 0) rfl hc (by omega) la (by omega)) ?_
        rintro x s2 hx
        obtain ⟨l6, b6, rfl, rfl, a6, z6, k6⟩ := bent_out hx hc
        have T3 : R_take [.loc 0, .d (.int 3)] [bxl b6] (.d (.int (tkR b6 3))) [bxl (tkB b6 3)] := R_take.mk (l := 0) (c := e + 3) rfl (by decide) (by decide) k6 (by omega)
        have k7 : Bk (e + 4) (tkB b6 3) := k6.next
        generalize tkR b6 3 = m3 at *
        generalize tkB b6 3 = b7 at *
        dsimp only [List.set]
        walk_at "w"
        refine w_asgIfP (b := PyData.eqv (.int m3) (.int 0)) (s1 := [bxl b7]) (s2 := [bxl b7]) (s3 := [bxl b7]) (xs := [.loc 0, .d (.str (S l6))]) (y := .d (.str (S l6))) (et_test (ev_op (ev_call (eva_cons (ev_var rfl) (eva_cons ev_int eva_nil)) T3) ev_int (o_eq rfl rfl))) (fun _ => ⟨eva_cons (ev_var rfl) (eva_cons (ev_var rfl) eva_nil), bent_ex (k := 0) rfl k7 (by omega) a6 (by omega)⟩) (fun _ => ev_var rfl) ?_ ?_
        rotate_left
        · intro _
          have a8 := a6
          have z8 : l6.length ≤ 51 := by omega
          have k8 : Bk (e + 7) b7 := k7.mono (by omega)
          obtain ⟨d, TO, RE, CASE, SM⟩ := told_ex a8 (by omega)
          dsimp only [List.set]
          walk_at "w"
          refine w_asg (ev_call (eva_cons (ev_var rfl) eva_nil) (RE _)) ?_
          dsimp only [List.set]
          rcases CASE with ⟨en, rfl⟩ | ⟨r8, er, rfl⟩
          · rw [en]
            refine w_if (b := false) (et_not (b := true) (et_test (ev_call (eva_cons (ev_call (eva_cons (ev_var rfl) (eva_cons (ev_op (ev_var rfl) ev_int (o_mod (by decide))) eva_nil)) (TO _ _)) (eva_cons (ev_if (b := true) (et_test (ev_op (ev_var rfl) ev_non o_isN)) (fun _ => ev_tupU (eva_cons ev_str (eva_cons (ev_var rfl) eva_nil)) (.cons (.cons .nil)) (Nat.le_of_ble_eq_true rfl)) (fun c => by cases c)) eva_nil)) (SM _)))) (fun c => by cases c) ?_
            intro _
            try dsimp only
            walk_at "w"
            exact hN3 _ _ ⟨_, by have := k8; rw [← hcj] at this; exact this, rfl, .same (.same (.same (.same (.none (.none (.same (.none (.none (.none (.none (.none .nil)))))))))))⟩
          · rw [er]
            refine w_if (b := false) (et_not (b := true) (et_test (ev_call (eva_cons (ev_call (eva_cons (ev_var rfl) (eva_cons (ev_op (ev_var rfl) ev_int (o_mod (by decide))) eva_nil)) (TO _ _)) (eva_cons (ev_if (b := false) (EvT.is (et_test (ev_op (ev_var rfl) ev_non o_isN)) rfl) (fun c => by cases c) (fun _ => ev_var rfl)) eva_nil)) (SM _)))) (fun c => by cases c) ?_
            intro _
            try dsimp only
            walk_at "w"
            exact hN3 _ _ ⟨_, by have := k8; rw [← hcj] at this; exact this, rfl, .same (.same (.same (.same (.none (.none (.same (.none (.none (.none (.none (.none .nil)))))))))))⟩
        · intro _ x s4 hx2
          obtain ⟨l8, b8, rfl, rfl, a8, z8, k8⟩ := bent_out hx2 k7
          have z8 : l8.length ≤ 51 := by omega
          have k8 : Bk (e + 7) b8 := k8.mono (by omega)
          obtain ⟨d, TO, RE, CASE, SM⟩ := told_ex a8 (by omega)
          dsimp only [List.set]
          walk_at "w"
          refine w_asg (ev_call (eva_cons (ev_var rfl) eva_nil) (RE _)) ?_
          dsimp only [List.set]
          rcases CASE with ⟨en, rfl⟩ | ⟨r8, er, rfl⟩
          · rw [en]
            refine w_if (b := false) (et_not (b := true) (et_test (ev_call (eva_cons (ev_call (eva_cons (ev_var rfl) (eva_cons (ev_op (ev_var rfl) ev_int (o_mod (by decide))) eva_nil)) (TO _ _)) (eva_cons (ev_if (b := true) (et_test (ev_op (ev_var rfl) ev_non o_isN)) (fun _ => ev_tupU (eva_cons ev_str (eva_cons (ev_var rfl) eva_nil)) (.cons (.cons .nil)) (Nat.le_of_ble_eq_true rfl)) (fun c => by cases c)) eva_nil)) (SM _)))) (fun c => by cases c) ?_
            intro _
            try dsimp only
            walk_at "w"
            exact hN3 _ _ ⟨_, by have := k8; rw [← hcj] at this; exact this, rfl, .same (.same (.same (.same (.none (.none (.same (.none (.none (.none (.none (.none .nil)))))))))))⟩
          · rw [er]
            refine w_if (b := false) (et_not (b := true) (et_test (ev_call (eva_cons (ev_call (eva_cons (ev_var rfl) (eva_cons (ev_op (ev_var rfl) ev_int (o_mod (by decide))) eva_nil)) (TO _ _)) (eva_cons (ev_if (b := false) (EvT.is (et_test (ev_op (ev_var rfl) ev_non o_isN)) rfl) (fun c => by cases c) (fun _ => ev_var rfl)) eva_nil)) (SM _)))) (fun c => by cases c) ?_
            intro _
            try dsimp only
            walk_at "w"
            exact hN3 _ _ ⟨_, by have := k8; rw [← hcj] at this; exact this, rfl, .same (.same (.same (.same (.none (.none (.same (.none (.none (.none (.none (.none .nil)))))))))))⟩
      · rintro ρ s2 ⟨b, hc, rfl, hq⟩
        exact hN2 _ _ ⟨b, by have := hc.mono (d := 200 * (i + 1)) (by omega); exact this, rfl, Lq.trans (.same (.same (.same (.none (.none (.none (.none (.none (.none (.none (.none (.none .nil)))))))))))) hq⟩
    · rintro ρ s2 ⟨b, hc, rfl, hq⟩
      have HQ : Lq (rho0 N_law [.scr ns]) ρ := Lq.trans (.same (.none (.none (.none (.none (.none (.none (.none (.none (.none (.none (.none .nil)))))))))))) hq
      refine w_cut (s := []) (ρ' := rho0 N_law [.scr ns]) ?_ (Nat.zero_le _) trivial HQ.len HQ.at_
      exact hN _ _ ⟨rfl, rfl⟩
  · rintro ρ s2 ⟨rfl, rfl⟩
    have Q1 : R_rin [.d (.str (S [45, 49, 114, 50]))] [] (.d (oR ((0, 1), (-1, 1), 2))) [] := .mk rfl (by decide) Ks.fine1
    have Q2 : R_rin [.d (.str (S [49, 47, 50, 32, 45, 51, 47, 50, 114, 53]))] [] (.d (oR ((1, 2), (-3, 2), 5))) [] := .mk rfl (by decide) Ks.fine2
    have Q3 : R_rin [.d (.str (S [45, 51]))] [] (.d (oR ((-3, 1), (0, 1), 1))) [] := .mk rfl (by decide) Ks.fine3
    have Q4 : R_rin [.d (.str (S [48]))] [] (.d (oR ((0, 1), (0, 1), 1))) [] := .mk rfl (by decide) Ks.fine4
    have Q5 : R_rin [.d (.str (S [49, 114, 57, 57, 57, 57, 56, 51]))] [] (.d (oR ((0, 1), (1, 1), 999983))) [] := .mk rfl (by decide) Ks.fine5
    have SMF : R_same 7 [.d (.list fineL5), .d (.list fineL5)] [] (.d (.bool true)) [] := .mk (by decide +kernel) (by decide +kernel) (by decide +kernel) (by decide)
    dsimp only
    walk_at "w"
    refine w_asg (x := .d (.list (stl odds))) (s1 := []) (ev_new (evn_lstU (xs := [.d (.str (S [])), .d (.str (S [114, 50])), .d (.str (S [49, 114])), .d (.str (S [49, 114, 49])), .d (.str (S [49, 114, 52])), .d (.str (S [49, 114, 49, 50])), .d (.str (S [48, 114, 50])), .d (.str (S [48, 32, 49, 114, 50])), .d (.str (S [49, 32, 114, 50])), .d (.str (S [49, 32, 32, 49, 114, 50])), .d (.str (S [49, 114, 50, 32, 49])), .d (.str (S [49, 114, 45, 50])), .d (.str (S [49, 114, 50, 114, 51])), .d (.str (S [49, 114, 48, 50]))]) (eva_cons (ev_sS (l := []) (by decide +kernel)) (eva_cons (ev_sS (l := [114, 50]) (by decide +kernel)) (eva_cons (ev_sS (l := [49, 114]) (by decide +kernel)) (eva_cons (ev_sS (l := [49, 114, 49]) (by decide +kernel)) (eva_cons (ev_sS (l := [49, 114, 52]) (by decide +kernel)) (eva_cons (ev_sS (l := [49, 114, 49, 50]) (by decide +kernel)) (eva_cons (ev_sS (l := [48, 114, 50]) (by decide +kernel)) (eva_cons (ev_sS (l := [48, 32, 49, 114, 50]) (by decide +kernel)) (eva_cons (ev_sS (l := [49, 32, 114, 50]) (by decide +kernel)) (eva_cons (ev_sS (l := [49, 32, 32, 49, 114, 50]) (by decide +kernel)) (eva_cons (ev_sS (l := [49, 114, 50, 32, 49]) (by decide +kernel)) (eva_cons (ev_sS (l := [49, 114, 45, 50]) (by decide +kernel)) (eva_cons (ev_sS (l := [49, 114, 50, 114, 51]) (by decide +kernel)) (eva_cons (ev_sS (l := [49, 114, 48, 50]) (by decide +kernel)) eva_nil)))))))))))))) (.cons (.cons (.cons (.cons (.cons (.cons (.cons (.cons (.cons (.cons (.cons (.cons (.cons (.cons .nil)))))))))))))) (Nat.le_of_ble_eq_true rfl))) ?_
    dsimp only [List.set]
    walk_at "w"
    refine w_asg (x := .d (.list (stl odds ++ stl odds2))) (s1 := []) (ev_new (evn_op (ds := stl odds ++ stl odds2) (ev_var rfl) (ev_new (evn_lstU (ds := stl odds2) (xs := [.d (.str (S [32, 49, 114, 50])), .d (.str (S [50, 47, 52, 114, 51])), .d (.str (S [49, 47, 49, 114, 51])), .d (.str (S [49, 114, 50, 47, 49])), .d (.str (S [49, 32, 50])), .d (.str (S [82, 50])), .d (.str (S [49, 42, 114, 50])), .d (.str (S [49, 114, 49, 48, 48, 48, 48, 48, 51])), .d (.str (S [49, 32, 49, 114, 49, 48, 48, 48, 48, 48, 49]))]) (eva_cons (ev_sS (l := [32, 49, 114, 50]) (by decide +kernel)) (eva_cons (ev_sS (l := [50, 47, 52, 114, 51]) (by decide +kernel)) (eva_cons (ev_sS (l := [49, 47, 49, 114, 51]) (by decide +kernel)) (eva_cons (ev_sS (l := [49, 114, 50, 47, 49]) (by decide +kernel)) (eva_cons (ev_sS (l := [49, 32, 50]) (by decide +kernel)) (eva_cons (ev_sS (l := [82, 50]) (by decide +kernel)) (eva_cons (ev_sS (l := [49, 42, 114, 50]) (by decide +kernel)) (eva_cons (ev_sS (l := [49, 114, 49, 48, 48, 48, 48, 48, 51]) (by decide +kernel)) (eva_cons (ev_sS (l := [49, 32, 49, 114, 49, 48, 48, 48, 48, 48, 49]) (by decide +kernel)) eva_nil))))))))) (.cons (.cons (.cons (.cons (.cons (.cons (.cons (.cons (.cons .nil))))))))) (Nat.le_of_ble_eq_true rfl))) (o_cat (ds := stl odds) (es := stl odds2) (Nat.le_of_ble_eq_true rfl)))) ?_
    dsimp only [List.set]
    walk_at "w"
    refine w_asg (x := .d (.list fineL5)) (s1 := []) (ev_new (evn_lstU (ds := fineL5) (xs := [.d (oR ((0, 1), (-1, 1), 2)), .d (oR ((1, 2), (-3, 2), 5)), .d (oR ((-3, 1), (0, 1), 1)), .d (oR ((0, 1), (0, 1), 1)), .d (oR ((0, 1), (1, 1), 999983))]) (eva_cons (ev_callS (s1 := []) (eva_cons (ev_sS (l := [45, 49, 114, 50]) (by decide +kernel)) eva_nil) Q1) (eva_cons (ev_callS (s1 := []) (eva_cons (ev_sS (l := [49, 47, 50, 32, 45, 51, 47, 50, 114, 53]) (by decide +kernel)) eva_nil) Q2) (eva_cons (ev_callS (s1 := []) (eva_cons (ev_sS (l := [45, 51]) (by decide +kernel)) eva_nil) Q3) (eva_cons (ev_callS (s1 := []) (eva_cons (ev_sS (l := [48]) (by decide +kernel)) eva_nil) Q4) (eva_cons (ev_callS (s1 := []) (eva_cons (ev_sS (l := [49, 114, 57, 57, 57, 57, 56, 51]) (by decide +kernel)) eva_nil) Q5) eva_nil))))) (.cons (.cons (.cons (.cons (.cons .nil))))) (Nat.le_of_ble_eq_true rfl))) ?_
    dsimp only [List.set]
    walk_at "w"
    refine w_asgN (s1 := []) (ds := fineL) ?_ ?_
    · refine evn_lstU (ds := fineL) (xs := [.d (oR ((0, 1), (-1, 1), 2)), .d (oR ((1, 2), (-3, 2), 5)), .d (oR ((-3, 1), (0, 1), 1)), .d (oR ((0, 1), (0, 1), 1))]) ?_ (.cons (.cons (.cons (.cons .nil)))) (Nat.le_of_ble_eq_true rfl)
      exact (eva_cons (ev_tupU (ds := [q2 (0) 1, q2 (-1) 1, .int 2]) (eva_cons (ev_tupU (ds := [.int (0), .int 1]) (eva_cons ev_int (eva_cons ev_int eva_nil)) (.cons (.cons .nil)) (Nat.le_of_ble_eq_true rfl)) (eva_cons (ev_tupU (ds := [.int (-1), .int 1]) (eva_cons (ev_un ev_int o_neg) (eva_cons ev_int eva_nil)) (.cons (.cons .nil)) (Nat.le_of_ble_eq_true rfl)) (eva_cons ev_int eva_nil))) (.cons (.cons (.cons .nil))) (Nat.le_of_ble_eq_true rfl)) (eva_cons (ev_tupU (ds := [q2 (1) 2, q2 (-3) 2, .int 5]) (eva_cons (ev_tupU (ds := [.int (1), .int 2]) (eva_cons ev_int (eva_cons ev_int eva_nil)) (.cons (.cons .nil)) (Nat.le_of_ble_eq_true rfl)) (eva_cons (ev_tupU (ds := [.int (-3), .int 2]) (eva_cons (ev_un ev_int o_neg) (eva_cons ev_int eva_nil)) (.cons (.cons .nil)) (Nat.le_of_ble_eq_true rfl)) (eva_cons ev_int eva_nil))) (.cons (.cons (.cons .nil))) (Nat.le_of_ble_eq_true rfl)) (eva_cons (ev_tupU (ds := [q2 (-3) 1, q2 (0) 1, .int 1]) (eva_cons (ev_tupU (ds := [.int (-3), .int 1]) (eva_cons (ev_un ev_int o_neg) (eva_cons ev_int eva_nil)) (.cons (.cons .nil)) (Nat.le_of_ble_eq_true rfl)) (eva_cons (ev_tupU (ds := [.int (0), .int 1]) (eva_cons ev_int (eva_cons ev_int eva_nil)) (.cons (.cons .nil)) (Nat.le_of_ble_eq_true rfl)) (eva_cons ev_int eva_nil))) (.cons (.cons (.cons .nil))) (Nat.le_of_ble_eq_true rfl)) (eva_cons (ev_tupU (ds := [q2 (0) 1, q2 (0) 1, .int 1]) (eva_cons (ev_tupU (ds := [.int (0), .int 1]) (eva_cons ev_int (eva_cons ev_int eva_nil)) (.cons (.cons .nil)) (Nat.le_of_ble_eq_true rfl)) (eva_cons (ev_tupU (ds := [.int (0), .int 1]) (eva_cons ev_int (eva_cons ev_int eva_nil)) (.cons (.cons .nil)) (Nat.le_of_ble_eq_true rfl)) (eva_cons ev_int eva_nil))) (.cons (.cons (.cons .nil))) (Nat.le_of_ble_eq_true rfl)) eva_nil))))
    dsimp only [List.set]
    walk_at "w"
    refine w_app (l := 0) (s1 := [fineL]) (ds := fineL) (d := oR ((0, 1), (1, 1), 999983)) (ev_var rfl) ?_ rfl (Nat.le_of_ble_eq_true rfl) ?_ ⟨_, rfl⟩
    · exact eva_cons (ev_tupU (ds := [q2 (0) 1, q2 (1) 1, .int 999983]) (eva_cons (ev_tupU (ds := [.int (0), .int 1]) (eva_cons ev_int (eva_cons ev_int eva_nil)) (.cons (.cons .nil)) (Nat.le_of_ble_eq_true rfl)) (eva_cons (ev_tupU (ds := [.int (1), .int 1]) (eva_cons ev_int (eva_cons ev_int eva_nil)) (.cons (.cons .nil)) (Nat.le_of_ble_eq_true rfl)) (eva_cons ev_int eva_nil))) (.cons (.cons (.cons .nil))) (Nat.le_of_ble_eq_true rfl)) eva_nil
    refine w_at (s' := [] ++ [fineL5]) ?_
    refine w_freeze (n := 9) rfl ?_ (Nat.zero_le _) trivial
    dsimp only [List.set]
    refine w_ret (x := .d (.bool true)) (s1 := []) ?_ okr_true
    refine (ev_andV (b := true) (c := ((odds ++ odds2).map fun _ => true).all id) (ev_call (eva_cons (ev_var rfl) (eva_cons (ev_var rfl) eva_nil)) SMF) (fun _ => ?_) (fun c => by cases c)).is (by rw [all_true]; rfl)
    refine ev_cb (eva_cons (ev_new ?_) eva_nil) o_all
    refine evn_lcL (S := fun _ => []) (ds := stl odds ++ stl odds2) (es := ((odds ++ odds2).map fun _ => true).map PyData.bool) (ev_var rfl) (by decide) (by decide) ?_
    intro i d e h1 h2
    obtain ⟨l, ml, rfl⟩ : ∃ l ∈ odds ++ odds2, d = .str (S l) := by
      have := List.mem_of_getElem? h1
      rw [← List.map_append, List.mem_map] at this
      obtain ⟨l, h, rfl⟩ := this
      exact ⟨l, h, rfl⟩
    obtain ⟨la, lz⟩ := odd_asc l ml
    have pn : progR l = none := Ks.prog_no (Ks.odds_no l ml)
    have et : e = .bool true := by
      have := List.mem_of_getElem? h2
      rw [List.map_map, List.mem_map] at this
      obtain ⟨_, _, h⟩ := this
      exact h.symm
    subst et
    refine Ev.is (ev_op (ev_call (eva_cons (ev_var rfl) (eva_cons ev_int eva_nil)) (R_told.no (t := 0) la lz pn)) (ev_tupU (eva_cons ev_str (eva_cons (ev_var rfl) eva_nil)) (.cons (.cons .nil)) (Nat.le_of_ble_eq_true rfl)) (o_eq ?_ ?_)) ?_
    · exact shaped_of (lay_ref la) (Nat.le_of_ble_eq_true rfl)
    · exact shaped_of (lay_ref la) (Nat.le_of_ble_eq_true rfl)
    · rw [eqv_self _ (lay_ref la)]
end
end K05
namespace K05
open PySem L2 Pw
def clsBody : Stmt → List Stmt
  | .ClassDef _ _ _ body .. => body
  | _ => []
abbrev s_ini_BadText : Stmt := (clsBody (topS 2)).getD 0 (.Pass ⟨0, 0, 0, 0⟩)
theorem sc_ini_BadText : FnScope ["self", "text"] ["self", "text"] (defScope s_ini_BadText) := ⟨rfl, rfl, rfl, by decide +kernel, rfl, by decide +kernel, by decide +kernel⟩
abbrev PL : PySem.W.OpenLaw := PySem.Challenge.rw_pegwishes_k05_roots_written
theorem all_mk {w : World} {K : PySem.W.Frag} {h : Heap} {mg : Str → Option Value} {fa : Addr} (X : K.In h) (G : h.Ns mainGlobals mg) (hfa : mg "law" = some (.ref fa))
    {f_is_number : Addr} {od_is_number an_is_number : Option Addr} {sl_is_number : Array (Option Value)} {oc_is_number kV_is_number dc_is_number pm_is_number cd_is_number ct_is_number : Value}
    {f_number_text : Addr} {od_number_text an_number_text : Option Addr} {sl_number_text : Array (Option Value)} {oc_number_text kV_number_text dc_number_text pm_number_text cd_number_text ct_number_text : Value}
    {f_number_in : Addr} {od_number_in an_number_in : Option Addr} {sl_number_in : Array (Option Value)} {oc_number_in kV_number_in dc_number_in pm_number_in cd_number_in ct_number_in : Value}
    {f__number_of : Addr} {od__number_of an__number_of : Option Addr} {sl__number_of : Array (Option Value)} {oc__number_of kV__number_of dc__number_of pm__number_of cd__number_of ct__number_of : Value}
    {f_is_frac : Addr} {od_is_frac an_is_frac : Option Addr} {sl_is_frac : Array (Option Value)} {oc_is_frac kV_is_frac dc_is_frac pm_is_frac cd_is_frac ct_is_frac : Value}
    {f_frac : Addr} {od_frac an_frac : Option Addr} {sl_frac : Array (Option Value)} {oc_frac kV_frac dc_frac pm_frac cd_frac ct_frac : Value}
    {T_frac : Addr} {oT_frac : Value} {dT_frac : Option Addr} {nT_frac : Nat} {slT_frac : Array (Option Value)} {tk_frac : Tok}
    {f_plus : Addr} {od_plus an_plus : Option Addr} {sl_plus : Array (Option Value)} {oc_plus kV_plus dc_plus pm_plus cd_plus ct_plus : Value}
    {f_times : Addr} {od_times an_times : Option Addr} {sl_times : Array (Option Value)} {oc_times kV_times dc_times pm_times cd_times ct_times : Value}
    {f_frac_text : Addr} {od_frac_text an_frac_text : Option Addr} {sl_frac_text : Array (Option Value)} {oc_frac_text kV_frac_text dc_frac_text pm_frac_text cd_frac_text ct_frac_text : Value}
    {f_frac_or_none : Addr} {od_frac_or_none an_frac_or_none : Option Addr} {sl_frac_or_none : Array (Option Value)} {oc_frac_or_none kV_frac_or_none dc_frac_or_none pm_frac_or_none cd_frac_or_none ct_frac_or_none : Value}
    {f_is_root : Addr} {od_is_root an_is_root : Option Addr} {sl_is_root : Array (Option Value)} {oc_is_root kV_is_root dc_is_root pm_is_root cd_is_root ct_is_root : Value}
    {f__parted : Addr} {od__parted an__parted : Option Addr} {sl__parted : Array (Option Value)} {oc__parted kV__parted dc__parted pm__parted cd__parted ct__parted : Value}
    {f_rooted : Addr} {od_rooted an_rooted : Option Addr} {sl_rooted : Array (Option Value)} {oc_rooted kV_rooted dc_rooted pm_rooted cd_rooted ct_rooted : Value}
    {f_root_text : Addr} {od_root_text an_root_text : Option Addr} {sl_root_text : Array (Option Value)} {oc_root_text kV_root_text dc_root_text pm_root_text cd_root_text ct_root_text : Value}
    {f_root_in : Addr} {od_root_in an_root_in : Option Addr} {sl_root_in : Array (Option Value)} {oc_root_in kV_root_in dc_root_in pm_root_in cd_root_in ct_root_in : Value}
    {f__law_cell_at : Addr} {od__law_cell_at an__law_cell_at : Option Addr} {sl__law_cell_at : Array (Option Value)} {oc__law_cell_at kV__law_cell_at dc__law_cell_at pm__law_cell_at cd__law_cell_at ct__law_cell_at : Value}
    {f__law_box : Addr} {od__law_box an__law_box : Option Addr} {sl__law_box : Array (Option Value)} {oc__law_box kV__law_box dc__law_box pm__law_box cd__law_box ct__law_box : Value}
    {f__law_take : Addr} {od__law_take an__law_take : Option Addr} {sl__law_take : Array (Option Value)} {oc__law_take kV__law_take dc__law_take pm__law_take cd__law_take ct__law_take : Value}
    {f__law_same : Addr} {od__law_same an__law_same : Option Addr} {sl__law_same : Array (Option Value)} {oc__law_same kV__law_same dc__law_same pm__law_same cd__law_same ct__law_same : Value}
    {f__law_of : Addr} {od__law_of an__law_of : Option Addr} {sl__law_of : Array (Option Value)} {oc__law_of kV__law_of dc__law_of pm__law_of cd__law_of ct__law_of : Value}
    {f__law_frac : Addr} {od__law_frac an__law_frac : Option Addr} {sl__law_frac : Array (Option Value)} {oc__law_frac kV__law_frac dc__law_frac pm__law_frac cd__law_frac ct__law_frac : Value}
    {f__law_draw : Addr} {od__law_draw an__law_draw : Option Addr} {sl__law_draw : Array (Option Value)} {oc__law_draw kV__law_draw dc__law_draw pm__law_draw cd__law_draw ct__law_draw : Value}
    {f__law_side : Addr} {od__law_side an__law_side : Option Addr} {sl__law_side : Array (Option Value)} {oc__law_side kV__law_side dc__law_side pm__law_side cd__law_side ct__law_side : Value}
    {f__law_parts : Addr} {od__law_parts an__law_parts : Option Addr} {sl__law_parts : Array (Option Value)} {oc__law_parts kV__law_parts dc__law_parts pm__law_parts cd__law_parts ct__law_parts : Value}
    {f__law_line : Addr} {od__law_line an__law_line : Option Addr} {sl__law_line : Array (Option Value)} {oc__law_line kV__law_line dc__law_line pm__law_line cd__law_line ct__law_line : Value}
    {f__law_written : Addr} {od__law_written an__law_written : Option Addr} {sl__law_written : Array (Option Value)} {oc__law_written kV__law_written dc__law_written pm__law_written cd__law_written ct__law_written : Value}
    {f__law_figures : Addr} {od__law_figures an__law_figures : Option Addr} {sl__law_figures : Array (Option Value)} {oc__law_figures kV__law_figures dc__law_figures pm__law_figures cd__law_figures ct__law_figures : Value}
    {f__law_read_frac : Addr} {od__law_read_frac an__law_read_frac : Option Addr} {sl__law_read_frac : Array (Option Value)} {oc__law_read_frac kV__law_read_frac dc__law_read_frac pm__law_read_frac cd__law_read_frac ct__law_read_frac : Value}
    {f__law_read : Addr} {od__law_read an__law_read : Option Addr} {sl__law_read : Array (Option Value)} {oc__law_read kV__law_read dc__law_read pm__law_read cd__law_read ct__law_read : Value}
    {f__law_told : Addr} {od__law_told an__law_told : Option Addr} {sl__law_told : Array (Option Value)} {oc__law_told kV__law_told dc__law_told pm__law_told cd__law_told ct__law_told : Value}
    {f__law_bent : Addr} {od__law_bent an__law_bent : Option Addr} {sl__law_bent : Array (Option Value)} {oc__law_bent kV__law_bent dc__law_bent pm__law_bent cd__law_bent ct__law_bent : Value}
    {f_law : Addr} {od_law an_law : Option Addr} {sl_law : Array (Option Value)} {oc_law kV_law dc_law pm_law cd_law ct_law : Value}
    {TN : Addr} {tR tP tS : Tok} {cBadText cBadRow cByNought cNoRoot cTooGreat iBadText : Addr} {dTN : Option Addr} {t0 t1 : Tok} {nTN : Nat} {slTN : Array (Option Value)}
    {nm_BadText q_BadText : Str} {N_BadText : Addr} {bs_BadText : List Value} {sn_BadText : List Str} {sub_BadText : List Value} {ab_BadText : Bool} {col_BadText : Option Bool} {dd_BadText : Option Addr} {m0_BadText m1_BadText m2_BadText m3_BadText m5_BadText : Option Value}
    {od_BadText an_BadText : Option Addr} {osl_BadText : Array (Option Value)} {oc_BadText kV_BadText dc_BadText pm_BadText cd_BadText ct_BadText : Value}
    (a_is_number : PySem.W.nsIn K mainGlobals "is_number" = some (some (.ref f_is_number)))
    (l_is_number : K.lookup f_is_number = some ⟨oc_is_number, od_is_number, .func (PySem.W.fnOf "is_number" "is_number" (defArgs s_is_number) (defBody s_is_number) (defScope s_is_number) .none kV_is_number dc_is_number pm_is_number an_is_number cd_is_number ct_is_number), sl_is_number⟩)
    (c_is_number : PySem.W.codeIn K cd_is_number "is_number" = true)
    (k_is_number : PySem.W.keepIn K (.ref f_is_number) = true)
    (a_number_text : PySem.W.nsIn K mainGlobals "number_text" = some (some (.ref f_number_text)))
    (l_number_text : K.lookup f_number_text = some ⟨oc_number_text, od_number_text, .func (PySem.W.fnOf "number_text" "number_text" (defArgs s_number_text) (defBody s_number_text) (defScope s_number_text) .none kV_number_text dc_number_text pm_number_text an_number_text cd_number_text ct_number_text), sl_number_text⟩)
    (c_number_text : PySem.W.codeIn K cd_number_text "number_text" = true)
    (k_number_text : PySem.W.keepIn K (.ref f_number_text) = true)
    (a_number_in : PySem.W.nsIn K mainGlobals "number_in" = some (some (.ref f_number_in)))
    (l_number_in : K.lookup f_number_in = some ⟨oc_number_in, od_number_in, .func (PySem.W.fnOf "number_in" "number_in" (defArgs s_number_in) (defBody s_number_in) (defScope s_number_in) .none kV_number_in dc_number_in pm_number_in an_number_in cd_number_in ct_number_in), sl_number_in⟩)
    (c_number_in : PySem.W.codeIn K cd_number_in "number_in" = true)
    (k_number_in : PySem.W.keepIn K (.ref f_number_in) = true)
    (a__number_of : PySem.W.nsIn K mainGlobals "_number_of" = some (some (.ref f__number_of)))
    (l__number_of : K.lookup f__number_of = some ⟨oc__number_of, od__number_of, .func (PySem.W.fnOf "_number_of" "_number_of" (defArgs s__number_of) (defBody s__number_of) (defScope s__number_of) .none kV__number_of dc__number_of pm__number_of an__number_of cd__number_of ct__number_of), sl__number_of⟩)
    (c__number_of : PySem.W.codeIn K cd__number_of "_number_of" = true)
    (k__number_of : PySem.W.keepIn K (.ref f__number_of) = true)
    (a_is_frac : PySem.W.nsIn K mainGlobals "is_frac" = some (some (.ref f_is_frac)))
    (l_is_frac : K.lookup f_is_frac = some ⟨oc_is_frac, od_is_frac, .func (PySem.W.fnOf "is_frac" "is_frac" (defArgs s_is_frac) (defBody s_is_frac) (defScope s_is_frac) .none kV_is_frac dc_is_frac pm_is_frac an_is_frac cd_is_frac ct_is_frac), sl_is_frac⟩)
    (c_is_frac : PySem.W.codeIn K cd_is_frac "is_frac" = true)
    (k_is_frac : PySem.W.keepIn K (.ref f_is_frac) = true)
    (a_frac : PySem.W.nsIn K mainGlobals "frac" = some (some (.ref f_frac)))
    (l_frac : K.lookup f_frac = some ⟨oc_frac, od_frac, .func (PySem.W.fnOf "frac" "frac" (defArgs s_frac) (defBody s_frac) (defScope s_frac) (.ref T_frac) kV_frac dc_frac pm_frac an_frac cd_frac ct_frac), sl_frac⟩)
    (c_frac : PySem.W.codeIn K cd_frac "frac" = true)
    (k_frac : PySem.W.keepIn K (.ref f_frac) = true)
    (t_frac : K.lookup T_frac = some ⟨oT_frac, dT_frac, .seq #[.int 1 tk_frac] nT_frac, slT_frac⟩)
    (a_plus : PySem.W.nsIn K mainGlobals "plus" = some (some (.ref f_plus)))
    (l_plus : K.lookup f_plus = some ⟨oc_plus, od_plus, .func (PySem.W.fnOf "plus" "plus" (defArgs s_plus) (defBody s_plus) (defScope s_plus) .none kV_plus dc_plus pm_plus an_plus cd_plus ct_plus), sl_plus⟩)
    (c_plus : PySem.W.codeIn K cd_plus "plus" = true)
    (k_plus : PySem.W.keepIn K (.ref f_plus) = true)
    (a_times : PySem.W.nsIn K mainGlobals "times" = some (some (.ref f_times)))
    (l_times : K.lookup f_times = some ⟨oc_times, od_times, .func (PySem.W.fnOf "times" "times" (defArgs s_times) (defBody s_times) (defScope s_times) .none kV_times dc_times pm_times an_times cd_times ct_times), sl_times⟩)
    (c_times : PySem.W.codeIn K cd_times "times" = true)
    (k_times : PySem.W.keepIn K (.ref f_times) = true)
    (a_frac_text : PySem.W.nsIn K mainGlobals "frac_text" = some (some (.ref f_frac_text)))
    (l_frac_text : K.lookup f_frac_text = some ⟨oc_frac_text, od_frac_text, .func (PySem.W.fnOf "frac_text" "frac_text" (defArgs s_frac_text) (defBody s_frac_text) (defScope s_frac_text) .none kV_frac_text dc_frac_text pm_frac_text an_frac_text cd_frac_text ct_frac_text), sl_frac_text⟩)
    (c_frac_text : PySem.W.codeIn K cd_frac_text "frac_text" = true)
    (k_frac_text : PySem.W.keepIn K (.ref f_frac_text) = true)
    (a_frac_or_none : PySem.W.nsIn K mainGlobals "frac_or_none" = some (some (.ref f_frac_or_none)))
    (l_frac_or_none : K.lookup f_frac_or_none = some ⟨oc_frac_or_none, od_frac_or_none, .func (PySem.W.fnOf "frac_or_none" "frac_or_none" (defArgs s_frac_or_none) (defBody s_frac_or_none) (defScope s_frac_or_none) .none kV_frac_or_none dc_frac_or_none pm_frac_or_none an_frac_or_none cd_frac_or_none ct_frac_or_none), sl_frac_or_none⟩)
    (c_frac_or_none : PySem.W.codeIn K cd_frac_or_none "frac_or_none" = true)
    (k_frac_or_none : PySem.W.keepIn K (.ref f_frac_or_none) = true)
    (a_is_root : PySem.W.nsIn K mainGlobals "is_root" = some (some (.ref f_is_root)))
    (l_is_root : K.lookup f_is_root = some ⟨oc_is_root, od_is_root, .func (PySem.W.fnOf "is_root" "is_root" (defArgs s_is_root) (defBody s_is_root) (defScope s_is_root) .none kV_is_root dc_is_root pm_is_root an_is_root cd_is_root ct_is_root), sl_is_root⟩)
    (c_is_root : PySem.W.codeIn K cd_is_root "is_root" = true)
    (k_is_root : PySem.W.keepIn K (.ref f_is_root) = true)
    (a__parted : PySem.W.nsIn K mainGlobals "_parted" = some (some (.ref f__parted)))
    (l__parted : K.lookup f__parted = some ⟨oc__parted, od__parted, .func (PySem.W.fnOf "_parted" "_parted" (defArgs s__parted) (defBody s__parted) (defScope s__parted) .none kV__parted dc__parted pm__parted an__parted cd__parted ct__parted), sl__parted⟩)
    (c__parted : PySem.W.codeIn K cd__parted "_parted" = true)
    (k__parted : PySem.W.keepIn K (.ref f__parted) = true)
    (a_rooted : PySem.W.nsIn K mainGlobals "rooted" = some (some (.ref f_rooted)))
    (l_rooted : K.lookup f_rooted = some ⟨oc_rooted, od_rooted, .func (PySem.W.fnOf "rooted" "rooted" (defArgs s_rooted) (defBody s_rooted) (defScope s_rooted) .none kV_rooted dc_rooted pm_rooted an_rooted cd_rooted ct_rooted), sl_rooted⟩)
    (c_rooted : PySem.W.codeIn K cd_rooted "rooted" = true)
    (k_rooted : PySem.W.keepIn K (.ref f_rooted) = true)
    (a_root_text : PySem.W.nsIn K mainGlobals "root_text" = some (some (.ref f_root_text)))
    (l_root_text : K.lookup f_root_text = some ⟨oc_root_text, od_root_text, .func (PySem.W.fnOf "root_text" "root_text" (defArgs s_root_text) (defBody s_root_text) (defScope s_root_text) .none kV_root_text dc_root_text pm_root_text an_root_text cd_root_text ct_root_text), sl_root_text⟩)
    (c_root_text : PySem.W.codeIn K cd_root_text "root_text" = true)
    (k_root_text : PySem.W.keepIn K (.ref f_root_text) = true)
    (a_root_in : PySem.W.nsIn K mainGlobals "root_in" = some (some (.ref f_root_in)))
    (l_root_in : K.lookup f_root_in = some ⟨oc_root_in, od_root_in, .func (PySem.W.fnOf "root_in" "root_in" (defArgs s_root_in) (defBody s_root_in) (defScope s_root_in) .none kV_root_in dc_root_in pm_root_in an_root_in cd_root_in ct_root_in), sl_root_in⟩)
    (c_root_in : PySem.W.codeIn K cd_root_in "root_in" = true)
    (k_root_in : PySem.W.keepIn K (.ref f_root_in) = true)
    (a__law_cell_at : PySem.W.nsIn K mainGlobals "_law_cell_at" = some (some (.ref f__law_cell_at)))
    (l__law_cell_at : K.lookup f__law_cell_at = some ⟨oc__law_cell_at, od__law_cell_at, .func (PySem.W.fnOf "_law_cell_at" "_law_cell_at" (defArgs s__law_cell_at) (defBody s__law_cell_at) (defScope s__law_cell_at) .none kV__law_cell_at dc__law_cell_at pm__law_cell_at an__law_cell_at cd__law_cell_at ct__law_cell_at), sl__law_cell_at⟩)
    (c__law_cell_at : PySem.W.codeIn K cd__law_cell_at "_law_cell_at" = true)
    (k__law_cell_at : PySem.W.keepIn K (.ref f__law_cell_at) = true)
    (a__law_box : PySem.W.nsIn K mainGlobals "_law_box" = some (some (.ref f__law_box)))
    (l__law_box : K.lookup f__law_box = some ⟨oc__law_box, od__law_box, .func (PySem.W.fnOf "_law_box" "_law_box" (defArgs s__law_box) (defBody s__law_box) (defScope s__law_box) .none kV__law_box dc__law_box pm__law_box an__law_box cd__law_box ct__law_box), sl__law_box⟩)
    (c__law_box : PySem.W.codeIn K cd__law_box "_law_box" = true)
    (k__law_box : PySem.W.keepIn K (.ref f__law_box) = true)
    (a__law_take : PySem.W.nsIn K mainGlobals "_law_take" = some (some (.ref f__law_take)))
    (l__law_take : K.lookup f__law_take = some ⟨oc__law_take, od__law_take, .func (PySem.W.fnOf "_law_take" "_law_take" (defArgs s__law_take) (defBody s__law_take) (defScope s__law_take) .none kV__law_take dc__law_take pm__law_take an__law_take cd__law_take ct__law_take), sl__law_take⟩)
    (c__law_take : PySem.W.codeIn K cd__law_take "_law_take" = true)
    (k__law_take : PySem.W.keepIn K (.ref f__law_take) = true)
    (a__law_same : PySem.W.nsIn K mainGlobals "_law_same" = some (some (.ref f__law_same)))
    (l__law_same : K.lookup f__law_same = some ⟨oc__law_same, od__law_same, .func (PySem.W.fnOf "_law_same" "_law_same" (defArgs s__law_same) (defBody s__law_same) (defScope s__law_same) .none kV__law_same dc__law_same pm__law_same an__law_same cd__law_same ct__law_same), sl__law_same⟩)
    (c__law_same : PySem.W.codeIn K cd__law_same "_law_same" = true)
    (k__law_same : PySem.W.keepIn K (.ref f__law_same) = true)
    (a__law_of : PySem.W.nsIn K mainGlobals "_law_of" = some (some (.ref f__law_of)))
    (l__law_of : K.lookup f__law_of = some ⟨oc__law_of, od__law_of, .func (PySem.W.fnOf "_law_of" "_law_of" (defArgs s__law_of) (defBody s__law_of) (defScope s__law_of) .none kV__law_of dc__law_of pm__law_of an__law_of cd__law_of ct__law_of), sl__law_of⟩)
    (c__law_of : PySem.W.codeIn K cd__law_of "_law_of" = true)
    (k__law_of : PySem.W.keepIn K (.ref f__law_of) = true)
    (a__law_frac : PySem.W.nsIn K mainGlobals "_law_frac" = some (some (.ref f__law_frac)))
    (l__law_frac : K.lookup f__law_frac = some ⟨oc__law_frac, od__law_frac, .func (PySem.W.fnOf "_law_frac" "_law_frac" (defArgs s__law_frac) (defBody s__law_frac) (defScope s__law_frac) .none kV__law_frac dc__law_frac pm__law_frac an__law_frac cd__law_frac ct__law_frac), sl__law_frac⟩)
    (c__law_frac : PySem.W.codeIn K cd__law_frac "_law_frac" = true)
    (k__law_frac : PySem.W.keepIn K (.ref f__law_frac) = true)
    (a__law_draw : PySem.W.nsIn K mainGlobals "_law_draw" = some (some (.ref f__law_draw)))
    (l__law_draw : K.lookup f__law_draw = some ⟨oc__law_draw, od__law_draw, .func (PySem.W.fnOf "_law_draw" "_law_draw" (defArgs s__law_draw) (defBody s__law_draw) (defScope s__law_draw) .none kV__law_draw dc__law_draw pm__law_draw an__law_draw cd__law_draw ct__law_draw), sl__law_draw⟩)
    (c__law_draw : PySem.W.codeIn K cd__law_draw "_law_draw" = true)
    (k__law_draw : PySem.W.keepIn K (.ref f__law_draw) = true)
    (a__law_side : PySem.W.nsIn K mainGlobals "_law_side" = some (some (.ref f__law_side)))
    (l__law_side : K.lookup f__law_side = some ⟨oc__law_side, od__law_side, .func (PySem.W.fnOf "_law_side" "_law_side" (defArgs s__law_side) (defBody s__law_side) (defScope s__law_side) .none kV__law_side dc__law_side pm__law_side an__law_side cd__law_side ct__law_side), sl__law_side⟩)
    (c__law_side : PySem.W.codeIn K cd__law_side "_law_side" = true)
    (k__law_side : PySem.W.keepIn K (.ref f__law_side) = true)
    (a__law_parts : PySem.W.nsIn K mainGlobals "_law_parts" = some (some (.ref f__law_parts)))
    (l__law_parts : K.lookup f__law_parts = some ⟨oc__law_parts, od__law_parts, .func (PySem.W.fnOf "_law_parts" "_law_parts" (defArgs s__law_parts) (defBody s__law_parts) (defScope s__law_parts) .none kV__law_parts dc__law_parts pm__law_parts an__law_parts cd__law_parts ct__law_parts), sl__law_parts⟩)
    (c__law_parts : PySem.W.codeIn K cd__law_parts "_law_parts" = true)
    (k__law_parts : PySem.W.keepIn K (.ref f__law_parts) = true)
    (a__law_line : PySem.W.nsIn K mainGlobals "_law_line" = some (some (.ref f__law_line)))
    (l__law_line : K.lookup f__law_line = some ⟨oc__law_line, od__law_line, .func (PySem.W.fnOf "_law_line" "_law_line" (defArgs s__law_line) (defBody s__law_line) (defScope s__law_line) .none kV__law_line dc__law_line pm__law_line an__law_line cd__law_line ct__law_line), sl__law_line⟩)
    (c__law_line : PySem.W.codeIn K cd__law_line "_law_line" = true)
    (k__law_line : PySem.W.keepIn K (.ref f__law_line) = true)
    (a__law_written : PySem.W.nsIn K mainGlobals "_law_written" = some (some (.ref f__law_written)))
    (l__law_written : K.lookup f__law_written = some ⟨oc__law_written, od__law_written, .func (PySem.W.fnOf "_law_written" "_law_written" (defArgs s__law_written) (defBody s__law_written) (defScope s__law_written) .none kV__law_written dc__law_written pm__law_written an__law_written cd__law_written ct__law_written), sl__law_written⟩)
    (c__law_written : PySem.W.codeIn K cd__law_written "_law_written" = true)
    (k__law_written : PySem.W.keepIn K (.ref f__law_written) = true)
    (a__law_figures : PySem.W.nsIn K mainGlobals "_law_figures" = some (some (.ref f__law_figures)))
    (l__law_figures : K.lookup f__law_figures = some ⟨oc__law_figures, od__law_figures, .func (PySem.W.fnOf "_law_figures" "_law_figures" (defArgs s__law_figures) (defBody s__law_figures) (defScope s__law_figures) .none kV__law_figures dc__law_figures pm__law_figures an__law_figures cd__law_figures ct__law_figures), sl__law_figures⟩)
    (c__law_figures : PySem.W.codeIn K cd__law_figures "_law_figures" = true)
    (k__law_figures : PySem.W.keepIn K (.ref f__law_figures) = true)
    (a__law_read_frac : PySem.W.nsIn K mainGlobals "_law_read_frac" = some (some (.ref f__law_read_frac)))
    (l__law_read_frac : K.lookup f__law_read_frac = some ⟨oc__law_read_frac, od__law_read_frac, .func (PySem.W.fnOf "_law_read_frac" "_law_read_frac" (defArgs s__law_read_frac) (defBody s__law_read_frac) (defScope s__law_read_frac) .none kV__law_read_frac dc__law_read_frac pm__law_read_frac an__law_read_frac cd__law_read_frac ct__law_read_frac), sl__law_read_frac⟩)
    (c__law_read_frac : PySem.W.codeIn K cd__law_read_frac "_law_read_frac" = true)
    (k__law_read_frac : PySem.W.keepIn K (.ref f__law_read_frac) = true)
    (a__law_read : PySem.W.nsIn K mainGlobals "_law_read" = some (some (.ref f__law_read)))
    (l__law_read : K.lookup f__law_read = some ⟨oc__law_read, od__law_read, .func (PySem.W.fnOf "_law_read" "_law_read" (defArgs s__law_read) (defBody s__law_read) (defScope s__law_read) .none kV__law_read dc__law_read pm__law_read an__law_read cd__law_read ct__law_read), sl__law_read⟩)
    (c__law_read : PySem.W.codeIn K cd__law_read "_law_read" = true)
    (k__law_read : PySem.W.keepIn K (.ref f__law_read) = true)
    (a__law_told : PySem.W.nsIn K mainGlobals "_law_told" = some (some (.ref f__law_told)))
    (l__law_told : K.lookup f__law_told = some ⟨oc__law_told, od__law_told, .func (PySem.W.fnOf "_law_told" "_law_told" (defArgs s__law_told) (defBody s__law_told) (defScope s__law_told) .none kV__law_told dc__law_told pm__law_told an__law_told cd__law_told ct__law_told), sl__law_told⟩)
    (c__law_told : PySem.W.codeIn K cd__law_told "_law_told" = true)
    (k__law_told : PySem.W.keepIn K (.ref f__law_told) = true)
    (a__law_bent : PySem.W.nsIn K mainGlobals "_law_bent" = some (some (.ref f__law_bent)))
    (l__law_bent : K.lookup f__law_bent = some ⟨oc__law_bent, od__law_bent, .func (PySem.W.fnOf "_law_bent" "_law_bent" (defArgs s__law_bent) (defBody s__law_bent) (defScope s__law_bent) .none kV__law_bent dc__law_bent pm__law_bent an__law_bent cd__law_bent ct__law_bent), sl__law_bent⟩)
    (c__law_bent : PySem.W.codeIn K cd__law_bent "_law_bent" = true)
    (k__law_bent : PySem.W.keepIn K (.ref f__law_bent) = true)
    (a_law : PySem.W.nsIn K mainGlobals "law" = some (some (.ref f_law)))
    (l_law : K.lookup f_law = some ⟨oc_law, od_law, .func (PySem.W.fnOf "law" "law" (defArgs s_law) (defBody s_law) (defScope s_law) .none kV_law dc_law pm_law an_law cd_law ct_law), sl_law⟩)
    (c_law : PySem.W.codeIn K cd_law "law" = true)
    (k_law : PySem.W.keepIn K (.ref f_law) = true)
    (z_ValueError : PySem.W.nsIn K mainGlobals "ValueError" = some none)
    (z_abs : PySem.W.nsIn K mainGlobals "abs" = some none)
    (z_all : PySem.W.nsIn K mainGlobals "all" = some none)
    (z_bool : PySem.W.nsIn K mainGlobals "bool" = some none)
    (z_int : PySem.W.nsIn K mainGlobals "int" = some none)
    (z_isinstance : PySem.W.nsIn K mainGlobals "isinstance" = some none)
    (z_len : PySem.W.nsIn K mainGlobals "len" = some none)
    (z_list : PySem.W.nsIn K mainGlobals "list" = some none)
    (z_max : PySem.W.nsIn K mainGlobals "max" = some none)
    (z_min : PySem.W.nsIn K mainGlobals "min" = some none)
    (z_range : PySem.W.nsIn K mainGlobals "range" = some none)
    (z_str : PySem.W.nsIn K mainGlobals "str" = some none)
    (z_tuple : PySem.W.nsIn K mainGlobals "tuple" = some none)
    (z_zip : PySem.W.nsIn K mainGlobals "zip" = some none)
    (z_gcd : PySem.W.nsIn K mainGlobals "gcd" = some (some (.builtin "math.gcd")))
    (g_N : PySem.W.nsIn K mainGlobals "NOUGHT" = some (some (.ref TN)))
    (l_N : K.lookup TN = some ⟨.type "tuple", dTN, .seq #[.int 0 t0, .int 1 t1] nTN, slTN⟩)
    (g_R : PySem.W.nsIn K mainGlobals "ROOTS" = some (some (.int 1000000 tR)))
    (g_P : PySem.W.nsIn K mainGlobals "PIECE" = some (some (.int 60 tP)))
    (g_S : PySem.W.nsIn K mainGlobals "SPAN" = some (some (.int 1000000000000000000000000000000000000000000000000000000000000 tS)))
    (g_BadText : PySem.W.nsIn K mainGlobals "BadText" = some (some (.ref cBadText)))
    (g_BadRow : PySem.W.nsIn K mainGlobals "BadRow" = some (some (.ref cBadRow)))
    (g_ByNought : PySem.W.nsIn K mainGlobals "ByNought" = some (some (.ref cByNought)))
    (g_NoRoot : PySem.W.nsIn K mainGlobals "NoRoot" = some (some (.ref cNoRoot)))
    (g_TooGreat : PySem.W.nsIn K mainGlobals "TooGreat" = some (some (.ref cTooGreat)))
    (x_BadText : K.lookup cBadText = some (excClassObj nm_BadText q_BadText cBadText N_BadText bs_BadText K05.tlV true sn_BadText sub_BadText ab_BadText col_BadText dd_BadText m0_BadText m1_BadText m2_BadText m3_BadText m5_BadText "ValueError.__new__"))
    (sa_BadText : PySem.W.findIn K (.ref cBadText) "__setattr__" = some (some (.builtin "object.__setattr__")))
    (ga_BadText : PySem.W.findIn K (.ref cBadText) "__getattribute__" = some (some (.builtin "BaseException.__getattribute__")))
    (gg_BadText : PySem.W.findIn K (.ref cBadText) "__getattr__" = some none)
    (nf_BadText : PySem.W.findIn K (.ref cBadText) "text" = some none)
    (i_BadText : PySem.W.findIn K (.ref cBadText) "__init__" = some (some (.ref iBadText)))
    (ti_BadText : PySem.W.typeIn K (.ref iBadText) = some (.type "function"))
    (li_BadText : K.lookup iBadText = some ⟨oc_BadText, od_BadText, .func (PySem.W.fnOf "__init__" "BadText.__init__" (defArgs K05.s_ini_BadText) (defBody K05.s_ini_BadText) (defScope K05.s_ini_BadText) .none kV_BadText dc_BadText pm_BadText an_BadText cd_BadText ct_BadText), osl_BadText⟩)
    (ci_BadText : PySem.W.codeIn K cd_BadText "BadText.__init__" = true)
    (ki_BadText : PySem.W.keepIn K (.ref iBadText) = true)
    (k_BadText : PySem.W.keepIn K (.ref cBadText) = true)
    (e_BadText : PySem.W.subIn K (.ref cBadText) (.type "BaseException") = some true)
    (t_BadText : PySem.W.typeIn K (.ref cBadText) = some (.type "type"))
    (hd_BadText : PySem.W.hasDictIn K cBadText = true)
    (cl_BadText : PySem.W.isClsIn K cBadText = true)
    (ca_BadText : PySem.W.findIn K (.ref cBadText) "__class__" = some (some (.builtin "object.__class__")))
    (ob_BadText : PySem.W.mroIn K cBadText (.type "object") = some true)
    (cg : PySem.W.specialIn K (.builtin "object.__class__") "__get__" = some (some (.builtin "getset_descriptor.__get__")))
    (tk : PySem.W.takesIn K (.builtin "object.__class__") = some true)
    (w1 : PySem.W.exmAny K (.ref cBadText) [.ref cBadRow, .ref cBadText, .ref cByNought, .ref cNoRoot, .ref cTooGreat] = some true)
    (w2 : PySem.W.kitOne K (.ref cBadText) (.ref cBadText) = some true)
    (w3 : PySem.W.kitOne K (.ref cBadText) (.type "ValueError") = some true)
    (w4 : PySem.W.kitAny K (.ref cBadText) [.ref cBadRow, .ref cByNought, .ref cNoRoot, .ref cTooGreat] = some false) :
    ∃ fd : FuncData, Fun K "law" "law" s_law fa fd ∧ (∀ (s : Shared) (u : Value), BindsTo s fd ⟨[u], []⟩ [("_law_script", u)]) ∧
      ∀ (base : Heap) (cdv : Value) (s : Shared) (H : Hp) (a : Addr) (ns : List Int), ns.length ≤ 63 → K.In base → base.Ns mainGlobals mg → Room 8 (PySem.callerA.deeper (PyProof.Rows.envOfC "law" (defScope s_law) s.heap.objs.size fa cdv)) → SqL K H a (ns.map V.int) →
        ∃ t, PSs (cxOf CX0 PL.prog w K mg base N_law "law" (defScope s_law) fa cdv PySem.callerA [] s H E0).nox (defBody s_law) t ∧ t { nx := fun _ _ => False, rt := fun v _ => v = .bl true } (L2.start N_law [.ref a]) H := by
  cases hfa.symm.trans (PySem.W.mg_of X G a_law)
  have Z : Zx K mg ⟨TN, tR, tP, tS, cBadText, cBadRow, cByNought, cNoRoot, cTooGreat, iBadText⟩ := {
    z_ValueError := PySem.W.mg_none_of X G z_ValueError
    z_abs := PySem.W.mg_none_of X G z_abs
    z_all := PySem.W.mg_none_of X G z_all
    z_bool := PySem.W.mg_none_of X G z_bool
    z_int := PySem.W.mg_none_of X G z_int
    z_isinstance := PySem.W.mg_none_of X G z_isinstance
    z_len := PySem.W.mg_none_of X G z_len
    z_list := PySem.W.mg_none_of X G z_list
    z_max := PySem.W.mg_none_of X G z_max
    z_min := PySem.W.mg_none_of X G z_min
    z_range := PySem.W.mg_none_of X G z_range
    z_str := PySem.W.mg_none_of X G z_str
    z_tuple := PySem.W.mg_none_of X G z_tuple
    z_zip := PySem.W.mg_none_of X G z_zip
    z_gcd := PySem.W.mg_of X G z_gcd
    g_NOUGHT := PySem.W.mg_of X G g_N
    n_NOUGHT := fun H => .tup (xs := [.int 0, .int 1]) (.inr ⟨_, _, _, l_N, rfl, rfl, by show 2 ≤ sizeLine; rw [sizeLine_eq]; decide, .cons ⟨_, rfl⟩ (.cons ⟨_, rfl⟩ .nil)⟩) (.cons (.int _) (.cons (.int _) .nil))
    g_ROOTS := PySem.W.mg_of X G g_R
    g_PIECE := PySem.W.mg_of X G g_P
    g_SPAN := PySem.W.mg_of X G g_S
    g_BadText := PySem.W.mg_of X G g_BadText
    g_BadRow := PySem.W.mg_of X G g_BadRow
    g_ByNought := PySem.W.mg_of X G g_ByNought
    g_NoRoot := PySem.W.mg_of X G g_NoRoot
    g_TooGreat := PySem.W.mg_of X G g_TooGreat
    x_BadText := ⟨⟨_, _, PySem.F.excBase_ValueError⟩, fun self => by kernel_rfl, by decide +kernel, ⟨_, _, _, _, _, _, _, _, _, _, _, _, _, _, x_BadText⟩, sa_BadText, e_BadText, t_BadText, k_BadText⟩
    i_BadText := i_BadText
    f_BadText := ti_BadText
    n_BadText := nf_BadText
    e_BadText := ⟨ga_BadText, gg_BadText, e_BadText, hd_BadText, cl_BadText, ca_BadText, cg, tk, ob_BadText⟩
    m_BadText := w1
    b_own := w2
    b_V := w3
    b_no := w4
  }
  have F_is_number := fun_mk (st := s_is_number) l_is_number c_is_number k_is_number
  have F_number_text := fun_mk (st := s_number_text) l_number_text c_number_text k_number_text
  have F_number_in := fun_mk (st := s_number_in) l_number_in c_number_in k_number_in
  have F__number_of := fun_mk (st := s__number_of) l__number_of c__number_of k__number_of
  have F_is_frac := fun_mk (st := s_is_frac) l_is_frac c_is_frac k_is_frac
  have F_plus := fun_mk (st := s_plus) l_plus c_plus k_plus
  have F_times := fun_mk (st := s_times) l_times c_times k_times
  have F_frac_text := fun_mk (st := s_frac_text) l_frac_text c_frac_text k_frac_text
  have F_frac_or_none := fun_mk (st := s_frac_or_none) l_frac_or_none c_frac_or_none k_frac_or_none
  have F_is_root := fun_mk (st := s_is_root) l_is_root c_is_root k_is_root
  have F__parted := fun_mk (st := s__parted) l__parted c__parted k__parted
  have F_rooted := fun_mk (st := s_rooted) l_rooted c_rooted k_rooted
  have F_root_text := fun_mk (st := s_root_text) l_root_text c_root_text k_root_text
  have F_root_in := fun_mk (st := s_root_in) l_root_in c_root_in k_root_in
  have F__law_cell_at := fun_mk (st := s__law_cell_at) l__law_cell_at c__law_cell_at k__law_cell_at
  have F__law_box := fun_mk (st := s__law_box) l__law_box c__law_box k__law_box
  have F__law_take := fun_mk (st := s__law_take) l__law_take c__law_take k__law_take
  have F__law_same := fun_mk (st := s__law_same) l__law_same c__law_same k__law_same
  have F__law_of := fun_mk (st := s__law_of) l__law_of c__law_of k__law_of
  have F__law_frac := fun_mk (st := s__law_frac) l__law_frac c__law_frac k__law_frac
  have F__law_draw := fun_mk (st := s__law_draw) l__law_draw c__law_draw k__law_draw
  have F__law_side := fun_mk (st := s__law_side) l__law_side c__law_side k__law_side
  have F__law_parts := fun_mk (st := s__law_parts) l__law_parts c__law_parts k__law_parts
  have F__law_line := fun_mk (st := s__law_line) l__law_line c__law_line k__law_line
  have F__law_written := fun_mk (st := s__law_written) l__law_written c__law_written k__law_written
  have F__law_figures := fun_mk (st := s__law_figures) l__law_figures c__law_figures k__law_figures
  have F__law_read_frac := fun_mk (st := s__law_read_frac) l__law_read_frac c__law_read_frac k__law_read_frac
  have F__law_read := fun_mk (st := s__law_read) l__law_read c__law_read k__law_read
  have F__law_told := fun_mk (st := s__law_told) l__law_told c__law_told k__law_told
  have F__law_bent := fun_mk (st := s__law_bent) l__law_bent c__law_bent k__law_bent
  have F_law := fun_mk (st := s_law) l_law c_law k_law
  have F_frac : FunD K "frac" "frac" (defArgs s_frac) (defBody s_frac) (defScope s_frac) [.int 1] [] _ _ := ⟨⟨_, _, .ref T_frac, kV_frac, dc_frac, pm_frac, an_frac, cd_frac, ct_frac, _, rfl, l_frac, c_frac, .inr ⟨by simp, T_frac, _, _, _, rfl, t_frac, rfl, .cons ⟨_, rfl⟩ .nil⟩, .inl rfl⟩, k_frac⟩
  refine ⟨_, F_law, fun s u => .of_eq rfl, fun base cdv s H a ns hl X2 G2 hr hS => ?_⟩
  have FI_BadText := fun_mk (st := s_ini_BadText) li_BadText ci_BadText ki_BadText
  have OI_BadText : FnOk PL.prog w K mg base CX0 1 _ _ ["self", "text"] (spIni K cBadText "text") := ok_ini FI_BadText sc_ini_BadText rfl rfl (va := fun X e => ⟨.inl (by rw [e]; decide +kernel), .inl (by rw [e]; decide +kernel)⟩)
  have BI_BadText := FI_BadText.binds (ps := ["self", "text"]) fun _ _ _ _ _ _ us hl => match us, hl with | [_, _], _ => rfl
  have O_frac : FnOk PL.prog w K mg base CX0 1 _ _ _ _ := ok_frac Z F_frac
  have C_frac : Cb PL.prog w K mg base "frac" 1 [] _ := cbD_mk 2 1 F_frac (by simp) rfl (PySem.W.mg_of X G a_frac) O_frac (fun _ _ _ _ _ _ _ us its h1 h2 => match us, its, h1, h2 with | [_, _], [_], _, _ => ⟨_, rfl, rfl⟩)
  have D_frac : Cb PL.prog w K mg base "frac" 1 [.int 1] _ := cbD_mk 1 0 F_frac (by simp) rfl (PySem.W.mg_of X G a_frac) O_frac (fun _ _ _ _ _ _ _ us its h1 h2 => match us, its, h1, h2 with | [_], [_], _, _ => ⟨_, rfl, rfl⟩)
  have C_is_number : Cb PL.prog w K mg base "is_number" 1 [] _ := cb_mk F_is_number (PySem.W.mg_of X G a_is_number) (ok_num Z F_is_number) (fun _ _ _ _ _ _ us hl => match us, hl with | [_], _ => rfl)
  have C_number_text : Cb PL.prog w K mg base "number_text" 2 [] _ := cb_mk F_number_text (PySem.W.mg_of X G a_number_text) (ok_ntext Z (PySem.W.mg_of X G a_number_text) F_number_text 2) (fun _ _ _ _ _ _ us hl => match us, hl with | [_], _ => rfl)
  have C__number_of : Cb PL.prog w K mg base "_number_of" 1 [] _ := cb_mk F__number_of (PySem.W.mg_of X G a__number_of) (ok_nof Z F__number_of) (fun _ _ _ _ _ _ us hl => match us, hl with | [_], _ => rfl)
  have C_number_in : Cb PL.prog w K mg base "number_in" 2 [] _ := cb_mk F_number_in (PySem.W.mg_of X G a_number_in) (ok_nin Z C__number_of F_number_in) (fun _ _ _ _ _ _ us hl => match us, hl with | [_], _ => rfl)
  have C_is_frac : Cb PL.prog w K mg base "is_frac" 2 [] _ := cb_mk F_is_frac (PySem.W.mg_of X G a_is_frac) (ok_isF Z C_is_number F_is_frac) (fun _ _ _ _ _ _ us hl => match us, hl with | [_], _ => rfl)
  have C_plus : Cb PL.prog w K mg base "plus" 2 [] _ := cb_mk F_plus (PySem.W.mg_of X G a_plus) (ok_plus C_frac F_plus) (fun _ _ _ _ _ _ us hl => match us, hl with | [_, _], _ => rfl)
  have C_times : Cb PL.prog w K mg base "times" 2 [] _ := cb_mk F_times (PySem.W.mg_of X G a_times) (ok_times C_frac F_times) (fun _ _ _ _ _ _ us hl => match us, hl with | [_, _], _ => rfl)
  have C_frac_text : Cb PL.prog w K mg base "frac_text" 3 [] _ := cb_mk F_frac_text (PySem.W.mg_of X G a_frac_text) (ok_ftext C_number_text F_frac_text) (fun _ _ _ _ _ _ us hl => match us, hl with | [_], _ => rfl)
  have C_frac_or_none : Cb PL.prog w K mg base "frac_or_none" 3 [] _ := cb_mk F_frac_or_none (PySem.W.mg_of X G a_frac_or_none) (ok_forn Z C_number_in C_is_frac F_frac_or_none) (fun _ _ _ _ _ _ us hl => match us, hl with | [_], _ => rfl)
  have C__parted : Cb PL.prog w K mg base "_parted" 1 [] _ := cb_mk F__parted (PySem.W.mg_of X G a__parted) (ok_parted Z F__parted) (fun _ _ _ _ _ _ us hl => match us, hl with | [_], _ => rfl)
  have C_is_root : Cb PL.prog w K mg base "is_root" 3 [] _ := cb_mk F_is_root (PySem.W.mg_of X G a_is_root) (ok_isrt Z C_is_frac C_is_number C__parted F_is_root) (fun _ _ _ _ _ _ us hl => match us, hl with | [_], _ => rfl)
  have C_rooted : Cb PL.prog w K mg base "rooted" 3 [] _ := cb_mk F_rooted (PySem.W.mg_of X G a_rooted) (ok_rooted Z C__parted C_times C_plus D_frac F_rooted) (fun _ _ _ _ _ _ us hl => match us, hl with | [_, _, _], _ => rfl)
  have O_rtext : FnOk PL.prog w K mg base CX0 4 _ _ _ _ := ok_rtext Z C_number_text C_frac_text F_root_text
  have C_root_text : Cb PL.prog w K mg base "root_text" 4 [] _ := cb_mk F_root_text (PySem.W.mg_of X G a_root_text) (O_rtext) (fun _ _ _ _ _ _ us hl => match us, hl with | [_], _ => rfl)
  have K_root_text : Ck PL.prog w K mg base "root_text" 4 ["root"] same1 _ := ck_mk F_root_text (PySem.W.mg_of X G a_root_text) (O_rtext) (fun h => vals_same1 h) (fun _ _ _ _ _ _ ws hl => match ws, hl with | [_], _ => rfl)
  have O_root_in := ok_rin (P := PL.prog) (w := w) (base := base) Z C_frac_or_none C_number_in C_is_root C_root_text OI_BadText BI_BadText F_root_in
  have C_root_in : CbX PL.prog w K mg base "root_in" 5 _ := ⟨_, _, _, PySem.W.mg_of X G a_root_in, k_root_in, O_root_in, F_root_in.binds fun _ _ _ _ _ _ us hl => match us, hl with | [_], _ => rfl⟩
  have K_root_in : CkX PL.prog w K mg base "root_in" 5 ["text"] same1 _ := ⟨_, _, _, _, PySem.W.mg_of X G a_root_in, k_root_in, O_root_in, kb_of F_root_in (fun _ r => vals_same1 r) (fun _ _ _ _ _ _ ws hl => match ws, hl with | [_], _ => rfl) (fun _ r => vals_same1 r)⟩
  have C__law_cell_at : Cb PL.prog w K mg base "_law_cell_at" 1 [] _ := cb_mk F__law_cell_at (PySem.W.mg_of X G a__law_cell_at) (ok_cell Z F__law_cell_at) (fun _ _ _ _ _ _ us hl => match us, hl with | [_, _], _ => rfl)
  have C__law_box : Cb PL.prog w K mg base "_law_box" 2 [] _ := cb_mk F__law_box (PySem.W.mg_of X G a__law_box) (ok_box Z C__law_cell_at F__law_box) (fun _ _ _ _ _ _ us hl => match us, hl with | [_, _], _ => rfl)
  have C__law_take : Cb PL.prog w K mg base "_law_take" 1 [] _ := cb_mk F__law_take (PySem.W.mg_of X G a__law_take) (ok_take F__law_take) (fun _ _ _ _ _ _ us hl => match us, hl with | [_, _], _ => rfl)
  have C__law_of : Cb PL.prog w K mg base "_law_of" 2 [] _ := cb_mk F__law_of (PySem.W.mg_of X G a__law_of) (ok_of Z C__law_take F__law_of) (fun _ _ _ _ _ _ us hl => match us, hl with | [_, _], _ => rfl)
  have C__law_frac : Cb PL.prog w K mg base "_law_frac" 1 [] _ := cb_mk F__law_frac (PySem.W.mg_of X G a__law_frac) (ok_lfrac Z F__law_frac) (fun _ _ _ _ _ _ us hl => match us, hl with | [_, _], _ => rfl)
  have C__law_same : Cb PL.prog w K mg base "_law_same" 7 [] _ := cb_mk F__law_same (PySem.W.mg_of X G a__law_same) (ok_same Z (PySem.W.mg_of X G a__law_same) F__law_same 7) (fun _ _ _ _ _ _ us hl => match us, hl with | [_, _], _ => rfl)
  have C__law_draw : Cb PL.prog w K mg base "_law_draw" 3 [] _ := cb_mk F__law_draw (PySem.W.mg_of X G a__law_draw) (ok_draw C__law_take C__law_of C__law_frac F__law_draw) (fun _ _ _ _ _ _ us hl => match us, hl with | [_, _], _ => rfl)
  have C__law_side : Cb PL.prog w K mg base "_law_side" 1 [] _ := cb_mk F__law_side (PySem.W.mg_of X G a__law_side) (ok_side Z F__law_side) (fun _ _ _ _ _ _ us hl => match us, hl with | [_], _ => rfl)
  have C__law_parts : Cb PL.prog w K mg base "_law_parts" 2 [] _ := cb_mk F__law_parts (PySem.W.mg_of X G a__law_parts) (ok_lparts Z C__law_side F__law_parts) (fun _ _ _ _ _ _ us hl => match us, hl with | [_], _ => rfl)
  have C__law_line : Cb PL.prog w K mg base "_law_line" 1 [] _ := cb_mk F__law_line (PySem.W.mg_of X G a__law_line) (ok_line Z F__law_line) (fun _ _ _ _ _ _ us hl => match us, hl with | [_], _ => rfl)
  have C__law_written : Cb PL.prog w K mg base "_law_written" 2 [] _ := cb_mk F__law_written (PySem.W.mg_of X G a__law_written) (ok_written Z C__law_line F__law_written) (fun _ _ _ _ _ _ us hl => match us, hl with | [_], _ => rfl)
  have C__law_figures : Cb PL.prog w K mg base "_law_figures" 1 [] _ := cb_mk F__law_figures (PySem.W.mg_of X G a__law_figures) (ok_figs Z F__law_figures) (fun _ _ _ _ _ _ us hl => match us, hl with | [_], _ => rfl)
  have C__law_read_frac : Cb PL.prog w K mg base "_law_read_frac" 2 [] _ := cb_mk F__law_read_frac (PySem.W.mg_of X G a__law_read_frac) (ok_rfrac Z C__law_figures C__law_frac F__law_read_frac) (fun _ _ _ _ _ _ us hl => match us, hl with | [_], _ => rfl)
  have C__law_read : Cb PL.prog w K mg base "_law_read" 3 [] _ := cb_mk F__law_read (PySem.W.mg_of X G a__law_read) (ok_read Z C__law_figures C__law_read_frac C__law_parts F__law_read) (fun _ _ _ _ _ _ us hl => match us, hl with | [_], _ => rfl)
  have C__law_told : Cb PL.prog w K mg base "_law_told" 6 [] _ := cb_mk F__law_told (PySem.W.mg_of X G a__law_told) (ok_told Z C_root_in K_root_in F__law_told) (fun _ _ _ _ _ _ us hl => match us, hl with | [_, _], _ => rfl)
  have C__law_bent : Cb PL.prog w K mg base "_law_bent" 3 [] _ := cb_mk F__law_bent (PySem.W.mg_of X G a__law_bent) (ok_bent Z C__law_take C__law_of F__law_bent) (fun _ _ _ _ _ _ us hl => match us, hl with | [_, _], _ => rfl)
  exact w_law Z hl hr C__law_box C__law_take C__law_of C__law_draw C_rooted C__law_written C__law_same C_root_text K_root_text C__law_told C__law_bent C__law_read C_root_in hS
end K05
open PySem PySem.W PyProof.Rows
set_option maxHeartbeats 0 in
theorem PySem.Challenge.cw_pegwishes_k05_roots_written_holds : PySem.Challenge.rw_pegwishes_k05_roots_written.Holds := by
  w_on; o_law; k_head; (case hw => w_witness2)
  k_fill
  refine Pw.law_end (l := PySem.Challenge.rw_pegwishes_k05_roots_written) (n := 63) (k := 8) (x := "_law_script") (nm := "law") (qual := "law") (st := K05.s_law) (N := K05.N_law) rfl (by decide) rfl ⟨rfl, by decide, by decide⟩ (fun w h Y => PySem.W.kIn_of Y) K05.sc_law ?F
  case F =>
    intro w mg fa h KX G hmg
    refine' K05.all_mk KX G hmg ?a_is_number ?l_is_number ?c_is_number ?k_is_number ?a_number_text ?l_number_text ?c_number_text ?k_number_text ?a_number_in ?l_number_in ?c_number_in ?k_number_in ?a__number_of ?l__number_of ?c__number_of ?k__number_of ?a_is_frac ?l_is_frac ?c_is_frac ?k_is_frac ?a_frac ?l_frac ?c_frac ?k_frac ?t_frac ?a_plus ?l_plus ?c_plus ?k_plus ?a_times ?l_times ?c_times ?k_times ?a_frac_text ?l_frac_text ?c_frac_text ?k_frac_text ?a_frac_or_none ?l_frac_or_none ?c_frac_or_none ?k_frac_or_none ?a_is_root ?l_is_root ?c_is_root ?k_is_root ?a__parted ?l__parted ?c__parted ?k__parted ?a_rooted ?l_rooted ?c_rooted ?k_rooted ?a_root_text ?l_root_text ?c_root_text ?k_root_text ?a_root_in ?l_root_in ?c_root_in ?k_root_in ?a__law_cell_at ?l__law_cell_at ?c__law_cell_at ?k__law_cell_at ?a__law_box ?l__law_box ?c__law_box ?k__law_box ?a__law_take ?l__law_take ?c__law_take ?k__law_take ?a__law_same ?l__law_same ?c__law_same ?k__law_same ?a__law_of ?l__law_of ?c__law_of ?k__law_of ?a__law_frac ?l__law_frac ?c__law_frac ?k__law_frac ?a__law_draw ?l__law_draw ?c__law_draw ?k__law_draw ?a__law_side ?l__law_side ?c__law_side ?k__law_side ?a__law_parts ?l__law_parts ?c__law_parts ?k__law_parts ?a__law_line ?l__law_line ?c__law_line ?k__law_line ?a__law_written ?l__law_written ?c__law_written ?k__law_written ?a__law_figures ?l__law_figures ?c__law_figures ?k__law_figures ?a__law_read_frac ?l__law_read_frac ?c__law_read_frac ?k__law_read_frac ?a__law_read ?l__law_read ?c__law_read ?k__law_read ?a__law_told ?l__law_told ?c__law_told ?k__law_told ?a__law_bent ?l__law_bent ?c__law_bent ?k__law_bent ?a_law ?l_law ?c_law ?k_law ?z_ValueError ?z_abs ?z_all ?z_bool ?z_int ?z_isinstance ?z_len ?z_list ?z_max ?z_min ?z_range ?z_str ?z_tuple ?z_zip ?z_gcd ?g_N ?l_N ?g_R ?g_P ?g_S ?g_BadText ?g_BadRow ?g_ByNought ?g_NoRoot ?g_TooGreat ?x_BadText ?sa_BadText ?ga_BadText ?gg_BadText ?nf_BadText ?i_BadText ?ti_BadText ?li_BadText ?ci_BadText ?ki_BadText ?k_BadText ?e_BadText ?t_BadText ?hd_BadText ?cl_BadText ?ca_BadText ?ob_BadText ?cg ?tk ?w1 ?w2 ?w3 ?w4
    (case a_is_number => k_is); (case l_is_number => k_is); (case c_is_number => k_is); (case k_is_number => k_is); (case a_number_text => k_is); (case l_number_text => k_is); (case c_number_text => k_is); (case k_number_text => k_is); (case a_number_in => k_is); (case l_number_in => k_is); (case c_number_in => k_is); (case k_number_in => k_is); (case a__number_of => k_is); (case l__number_of => k_is); (case c__number_of => k_is); (case k__number_of => k_is); (case a_is_frac => k_is); (case l_is_frac => k_is); (case c_is_frac => k_is); (case k_is_frac => k_is); (case a_frac => k_is); (case l_frac => k_is); (case c_frac => k_is); (case k_frac => k_is); (case t_frac => k_is); (case a_plus => k_is); (case l_plus => k_is); (case c_plus => k_is); (case k_plus => k_is); (case a_times => k_is); (case l_times => k_is); (case c_times => k_is); (case k_times => k_is); (case a_frac_text => k_is); (case l_frac_text => k_is); (case c_frac_text => k_is); (case k_frac_text => k_is); (case a_frac_or_none => k_is); (case l_frac_or_none => k_is); (case c_frac_or_none => k_is); (case k_frac_or_none => k_is); (case a_is_root => k_is); (case l_is_root => k_is); (case c_is_root => k_is); (case k_is_root => k_is); (case a__parted => k_is); (case l__parted => k_is); (case c__parted => k_is); (case k__parted => k_is); (case a_rooted => k_is); (case l_rooted => k_is); (case c_rooted => k_is); (case k_rooted => k_is); (case a_root_text => k_is); (case l_root_text => k_is); (case c_root_text => k_is); (case k_root_text => k_is); (case a_root_in => k_is); (case l_root_in => k_is); (case c_root_in => k_is); (case k_root_in => k_is); (case a__law_cell_at => k_is); (case l__law_cell_at => k_is); (case c__law_cell_at => k_is); (case k__law_cell_at => k_is); (case a__law_box => k_is); (case l__law_box => k_is); (case c__law_box => k_is); (case k__law_box => k_is); (case a__law_take => k_is); (case l__law_take => k_is); (case c__law_take => k_is); (case k__law_take => k_is); (case a__law_same => k_is); (case l__law_same => k_is); (case c__law_same => k_is); (case k__law_same => k_is); (case a__law_of => k_is); (case l__law_of => k_is); (case c__law_of => k_is); (case k__law_of => k_is); (case a__law_frac => k_is); (case l__law_frac => k_is); (case c__law_frac => k_is); (case k__law_frac => k_is); (case a__law_draw => k_is); (case l__law_draw => k_is); (case c__law_draw => k_is); (case k__law_draw => k_is); (case a__law_side => k_is); (case l__law_side => k_is); (case c__law_side => k_is); (case k__law_side => k_is); (case a__law_parts => k_is); (case l__law_parts => k_is); (case c__law_parts => k_is); (case k__law_parts => k_is); (case a__law_line => k_is); (case l__law_line => k_is); (case c__law_line => k_is); (case k__law_line => k_is); (case a__law_written => k_is); (case l__law_written => k_is); (case c__law_written => k_is); (case k__law_written => k_is); (case a__law_figures => k_is); (case l__law_figures => k_is); (case c__law_figures => k_is); (case k__law_figures => k_is); (case a__law_read_frac => k_is); (case l__law_read_frac => k_is); (case c__law_read_frac => k_is); (case k__law_read_frac => k_is); (case a__law_read => k_is); (case l__law_read => k_is); (case c__law_read => k_is); (case k__law_read => k_is); (case a__law_told => k_is); (case l__law_told => k_is); (case c__law_told => k_is); (case k__law_told => k_is); (case a__law_bent => k_is); (case l__law_bent => k_is); (case c__law_bent => k_is); (case k__law_bent => k_is); (case a_law => k_is); (case l_law => k_is); (case c_law => k_is); (case k_law => k_is); (case z_ValueError => k_is); (case z_abs => k_is); (case z_all => k_is); (case z_bool => k_is); (case z_int => k_is); (case z_isinstance => k_is); (case z_len => k_is); (case z_list => k_is); (case z_max => k_is); (case z_min => k_is); (case z_range => k_is); (case z_str => k_is); (case z_tuple => k_is); (case z_zip => k_is); (case z_gcd => k_is); (case g_N => k_is); (case l_N => k_is); (case g_R => k_is); (case g_P => k_is); (case g_S => k_is); (case g_BadText => k_is); (case g_BadRow => k_is); (case g_ByNought => k_is); (case g_NoRoot => k_is); (case g_TooGreat => k_is); (case x_BadText => k_is); (case sa_BadText => k_is); (case ga_BadText => k_is); (case gg_BadText => k_is); (case nf_BadText => k_is); (case i_BadText => k_is); (case ti_BadText => k_is); (case li_BadText => k_is); (case ci_BadText => k_is); (case ki_BadText => k_is); (case k_BadText => k_is); (case e_BadText => k_is); (case t_BadText => k_is); (case hd_BadText => k_is); (case cl_BadText => k_is); (case ca_BadText => k_is); (case ob_BadText => k_is); (case cg => k_is); (case tk => k_is); (case w1 => rfl); (case w2 => rfl); (case w3 => rfl); (case w4 => rfl)
