import PyProof.Rows.All
import Wide.All
import OpenK.AllK
import Wide.FinOn
import HandS.ForMost
import HandS.ForExc
import HandS.IsInst
import HandS.ExcIs
import KE.RegKIsAll
import HandS.Conv
import HandS.TupAny
import HandS.SortInts
import HandS.TryOnly
import HandS.SetFor
import HandS.Strs
import HandS.Zip
import HandS.TupMul
import PySem.Challenge.RW_rainparcels_k02_sums_of_pieces
set_option Elab.async false
set_option linter.all false
set_option maxRecDepth 100000
set_option maxHeartbeats 4000000
namespace Rn
open PySem PySem.Spec PyProof.Rows L2

/-! ## data in a heap that stands still -/
def cap : Nat := 100000
theorem cap_le {n : Nat} (h : n ≤ cap) : n ≤ sizeLine := Nat.le_trans h (by decide)
theorem cap_lt {n : Nat} (h : n < cap) : n < sizeLine := Nat.lt_of_lt_of_le h (by decide)
theorem cap_lt' {n : Nat} (h : n ≤ cap) : n < sizeLine := Nat.lt_of_le_of_lt h (by decide)

mutual
inductive Rp (G : Hp) : V → PyData → Prop
  | non : Rp G .non .none
  | bl {b : Bool} : Rp G (.bl b) (.bool b)
  | int {i : Int} : Rp G (.int i) (.int i)
  | str {s : Str} : Rp G (.str s) (.str s)
  | lst {a : Addr} {vs : List V} {ds : List PyData} : G a = some (.lst vs) → ds.length ≤ cap → RpL G vs ds → Rp G (.ref a) (.list ds)
  | tup {a : Addr} {vs : List V} {ds : List PyData} : G a = some (.tup vs) → ds.length ≤ cap → RpL G vs ds → Rp G (.ref a) (.tuple ds)
inductive RpL (G : Hp) : List V → List PyData → Prop
  | nil : RpL G [] []
  | cons {v : V} {d : PyData} {vs : List V} {ds : List PyData} : Rp G v d → RpL G vs ds → RpL G (v :: vs) (d :: ds)
end

def Ex (H H' : Hp) : Prop := ∀ a o, H a = some o → H' a = some o
theorem Ex.refl (H : Hp) : Ex H H := fun _ _ h => h
theorem Ex.trans {H H1 H2 : Hp} (a : Ex H H1) (b : Ex H1 H2) : Ex H H2 := fun x o h => b x o (a x o h)
theorem Ex.none {H H' : Hp} (e : Ex H H') {a : Addr} (h : H' a = Option.none) : H a = Option.none := by
  cases q : H a with
  | none => rfl
  | some o => rw [e a o q] at h; cases h
theorem Ex.new {H : Hp} {p : Addr} {o : HO} (h : H p = Option.none) : Ex H (upd H p o) := fun a u e => by
  rw [upd_ne (ne_of_none e h)]; exact e

mutual
theorem Rp.mono {G G' : Hp} (e : Ex G G') : ∀ {v : V} {d : PyData}, Rp G v d → Rp G' v d
  | _, _, .non => .non
  | _, _, .bl => .bl
  | _, _, .int => .int
  | _, _, .str => .str
  | _, _, .lst h l r => .lst (e _ _ h) l (RpL.mono e r)
  | _, _, .tup h l r => .tup (e _ _ h) l (RpL.mono e r)
theorem RpL.mono {G G' : Hp} (e : Ex G G') : ∀ {vs : List V} {ds : List PyData}, RpL G vs ds → RpL G' vs ds
  | _, _, .nil => .nil
  | _, _, .cons h r => .cons (Rp.mono e h) (RpL.mono e r)
end
theorem RpL.len {G : Hp} : ∀ {vs : List V} {ds : List PyData}, RpL G vs ds → vs.length = ds.length
  | _, _, .nil => rfl
  | _, _, .cons _ r => by rw [List.length_cons, List.length_cons, r.len]
theorem RpL.get {G : Hp} : ∀ {vs : List V} {ds : List PyData} {i : Nat} {d : PyData}, RpL G vs ds → ds[i]? = some d → ∃ v, vs[i]? = some v ∧ Rp G v d
  | _, _, _, _, .nil, h => by simp at h
  | _, _, 0, _, .cons r _, h => by simp at h; subst h; exact ⟨_, rfl, r⟩
  | _, _, i + 1, _, .cons _ t, h => by
    obtain ⟨v, h1, h2⟩ := RpL.get (i := i) t (by simpa using h)
    exact ⟨v, by simpa using h1, h2⟩
theorem RpL.get' {G : Hp} : ∀ {vs : List V} {ds : List PyData} {i : Nat} {v : V}, RpL G vs ds → vs[i]? = some v → ∃ d, ds[i]? = some d ∧ Rp G v d
  | _, _, _, _, .nil, h => by simp at h
  | _, _, 0, _, .cons r _, h => by simp at h; subst h; exact ⟨_, rfl, r⟩
  | _, _, i + 1, _, .cons _ t, h => by
    obtain ⟨v, h1, h2⟩ := RpL.get' (i := i) t (by simpa using h)
    exact ⟨v, by simpa using h1, h2⟩
theorem RpL.append {G : Hp} : ∀ {vs ws : List V} {ds es : List PyData}, RpL G vs ds → RpL G ws es → RpL G (vs ++ ws) (ds ++ es)
  | _, _, _, _, .nil, s => s
  | _, _, _, _, .cons h r, s => .cons h (r.append s)
theorem RpL.take {G : Hp} : ∀ {vs : List V} {ds : List PyData} (n : Nat), RpL G vs ds → RpL G (vs.take n) (ds.take n)
  | _, _, 0, _ => by simpa using RpL.nil
  | _, _, _ + 1, .nil => .nil
  | _, _, n + 1, .cons h r => .cons h (r.take n)
theorem RpL.drop {G : Hp} : ∀ {vs : List V} {ds : List PyData} (n : Nat), RpL G vs ds → RpL G (vs.drop n) (ds.drop n)
  | _, _, 0, r => r
  | _, _, _ + 1, .nil => .nil
  | _, _, n + 1, .cons _ r => r.drop n
theorem RpL.set {G : Hp} {v : V} {d : PyData} (h : Rp G v d) : ∀ {vs : List V} {ds : List PyData} (n : Nat), RpL G vs ds → RpL G (vs.set n v) (ds.set n d)
  | _, _, _, .nil => .nil
  | _, _, 0, .cons _ r => .cons h r
  | _, _, n + 1, .cons q r => .cons q (r.set h n)
theorem RpL.ints {G : Hp} : ∀ (ns : List Int), RpL G (ns.map V.int) (ns.map PyData.int)
  | [] => .nil
  | _ :: r => .cons .int (RpL.ints r)
theorem RpL.ints_inv {G : Hp} : ∀ {vs : List V} {ns : List Int}, RpL G vs (ns.map PyData.int) → vs = ns.map V.int
  | _, [], .nil => rfl
  | _, n :: r, h => by
    cases h with
    | cons a b => cases a; rw [RpL.ints_inv b]; rfl
theorem Rp.int_inv {G : Hp} {v : V} {i : Int} (h : Rp G v (.int i)) : v = .int i := by cases h; rfl
theorem Rp.bl_inv {G : Hp} {v : V} {b : Bool} (h : Rp G v (.bool b)) : v = .bl b := by cases h; rfl
theorem Rp.str_inv {G : Hp} {v : V} {s : Str} (h : Rp G v (.str s)) : v = .str s := by cases h; rfl
theorem Rp.non_inv {G : Hp} {v : V} (h : Rp G v .none) : v = .non := by cases h; rfl
theorem Rp.lst_inv {G : Hp} {v : V} {ds : List PyData} (h : Rp G v (.list ds)) : ∃ a vs, v = .ref a ∧ G a = some (.lst vs) ∧ ds.length ≤ cap ∧ RpL G vs ds := by
  cases h with | lst a b c => exact ⟨_, _, rfl, a, b, c⟩
theorem Rp.tup_inv {G : Hp} {v : V} {ds : List PyData} (h : Rp G v (.tuple ds)) : ∃ a vs, v = .ref a ∧ G a = some (.tup vs) ∧ ds.length ≤ cap ∧ RpL G vs ds := by
  cases h with | tup a b c => exact ⟨_, _, rfl, a, b, c⟩

mutual
theorem Rp.dp {K : PySem.W.Frag} {G H : Hp} (e : Ex G H) : ∀ {v : V} {d : PyData}, Rp G v d → Dp K H v d
  | _, _, .non => .non
  | _, _, .bl => .bl _
  | _, _, .int => .int _
  | _, _, .str => .str _
  | _, _, .lst h _ r => .lst (.inl (.inl (e _ _ h))) (RpL.dp e r)
  | _, _, .tup h _ r => .tup (.inl (.inl (e _ _ h))) (RpL.dp e r)
theorem RpL.dp {K : PySem.W.Frag} {G H : Hp} (e : Ex G H) : ∀ {vs : List V} {ds : List PyData}, RpL G vs ds → DpAll K H vs ds
  | _, _, .nil => .nil
  | _, _, .cons h r => .cons (Rp.dp e h) (RpL.dp e r)
end

/-! ## how the heaps grow where nothing is changed -/
structure Grow (G H G' H' : Hp) : Prop where
  g : Ex G G'
  s : Ex G' H'
  h : Ex H H'
  o : ∀ a, H a ≠ none → G' a = G a
theorem Grow.refl {G H : Hp} (e : Ex G H) : Grow G H G H := ⟨.refl G, e, .refl H, fun _ _ => rfl⟩
theorem Ex.some {H H' : Hp} (e : Ex H H') {a : Addr} (h : H a ≠ Option.none) : H' a ≠ Option.none := fun z => h (e.none z)
theorem Grow.trans {G H G1 H1 G2 H2 : Hp} (x : Grow G H G1 H1) (y : Grow G1 H1 G2 H2) : Grow G H G2 H2 :=
  ⟨x.g.trans y.g, y.s, x.h.trans y.h, fun a h => (y.o a (x.h.some h)).trans (x.o a h)⟩
/-- a new object that will stand still -/
theorem Grow.new {G H : Hp} (e : Ex G H) {p : Addr} {o : HO} (h : H p = none) : Grow G H (upd G p o) (upd H p o) := by
  refine ⟨.new (e.none h), fun a u q => ?_, .new h, fun a z => ?_⟩
  · by_cases k : a = p
    · subst k; rw [upd_same] at q ⊢; exact q
    · rw [upd_ne k] at q ⊢; exact e _ _ q
  · have : a ≠ p := fun k => z (k ▸ h)
    rw [upd_ne this]
/-- a new object that may change -/
theorem Grow.raw {G H : Hp} (e : Ex G H) {p : Addr} {o : HO} (h : H p = none) : Grow G H G (upd H p o) :=
  ⟨.refl G, e.trans (.new h), .new h, fun _ _ => rfl⟩

/-! ## kinds: what a name holds -/
structure Rs where
  at_ : Hp → Hp → V → (Addr → Prop) → Prop
  loc : ∀ {G H G' H' : Hp} {v : V} {P : Addr → Prop}, at_ G H v P → Ex G G' → (∀ a, P a → H' a = H a) → at_ G' H' v P
/-- what is known of an object that is only read -/
structure Ro where
  at_ : Hp → Hp → V → Prop
  mono : ∀ {G H G' H' : Hp} {v : V}, at_ G H v → Ex G G' → Ex H H' → at_ G' H' v
/-- an argument: a datum, a list that is read, the script, an object that is read -/
inductive Ar
  | dat (d : PyData)
  | lst (ds : List PyData)
  | scr (ns : List Int)
  | obj (r : Ro)
def ArAt (K : PySem.W.Frag) (G H : Hp) (v : V) : Ar → Prop
  | .dat d => Rp G v d
  | .lst ds => ∃ a vs, v = .ref a ∧ H a = some (.lst vs) ∧ ds.length ≤ cap ∧ RpL G vs ds
  | .scr ns => ∃ a, v = .ref a ∧ SqL K H a (ns.map V.int) ∧ ns.length ≤ 63
  | .obj r => r.at_ G H v
theorem ArAt.mono {K : PySem.W.Frag} {G H G' H' : Hp} {v : V} {a : Ar} (h : ArAt K G H v a) (g : Ex G G') (e : Ex H H') : ArAt K G' H' v a := by
  cases a with
  | dat d => exact Rp.mono g h
  | lst ds => obtain ⟨a, vs, h1, h2, h3, h4⟩ := h; exact ⟨a, vs, h1, e _ _ h2, h3, h4.mono g⟩
  | scr ns => obtain ⟨a, h1, h2, h3⟩ := h; exact ⟨a, h1, Same.seq e h2, h3⟩
  | obj r => exact r.mono h g e
inductive Kd
  | un
  | val (d : PyData)
  | own (v : V) (ds : List PyData)
  | arg (a : Ar)
  | raw (v : V)
  | res (v : V) (r : Rs)
def Ar.kd : Ar → Kd
  | .dat d => .val d
  | a => .arg a
/-- nothing that may be changed -/
def Kd.dry : Kd → Bool
  | .own _ _ => false
  | .res _ _ => false
  | _ => true
/-- where a def began: its heap (less what it may change), what stood still -/
structure Md where
  P : Program
  w : World
  K : PySem.W.Frag
  mg : Str → Option Value
  base : Heap
structure Fr where
  K : PySem.W.Frag
  B : Hp
  G0 : Hp
def KAt (F : Fr) (G H : Hp) : Kd → Option V → (Addr → Prop) → Prop
  | .un, _, P => ∀ a, ¬ P a
  | .val d, x, P => (∀ a, ¬ P a) ∧ ∃ v, x = some v ∧ Rp G v d
  | .own v ds, x, P => x = some v ∧ ∃ a vs, v = .ref a ∧ (∀ b, P b ↔ b = a) ∧ H a = some (.lst vs) ∧ ds.length ≤ cap ∧ RpL G vs ds
  | .arg r, x, P => (∀ a, ¬ P a) ∧ ∃ v, x = some v ∧ ArAt F.K G F.B v r
  | .raw v, x, P => (∀ a, ¬ P a) ∧ x = some v
  | .res v r, x, P => x = some v ∧ r.at_ G H v P
theorem KAt.mono {F : Fr} {G H G' H' : Hp} {k : Kd} {x : Option V} {P : Addr → Prop} (h : KAt F G H k x P) (g : Ex G G') (e : ∀ a, P a → H' a = H a) : KAt F G' H' k x P := by
  cases k with
  | un => exact h
  | val d => obtain ⟨h1, v, h2, h3⟩ := h; exact ⟨h1, v, h2, h3.mono g⟩
  | own v ds => obtain ⟨h1, a, vs, h2, h3, h4, h5, h6⟩ := h; exact ⟨h1, a, vs, h2, h3, (e a ((h3 a).mpr rfl)).trans h4, h5, h6.mono g⟩
  | arg r => obtain ⟨h0, v, h1, h2⟩ := h; exact ⟨h0, v, h1, h2.mono g (.refl _)⟩
  | raw v => exact h
  | res v r => exact ⟨h.1, r.loc h.2 g e⟩
theorem KAt.dry {F : Fr} {G H : Hp} {k : Kd} {x : Option V} {P : Addr → Prop} (h : KAt F G H k x P) (hd : k.dry = true) : ∀ a, ¬ P a := by
  cases k with
  | un => exact h
  | val d => exact h.1
  | own v ds => cases hd
  | arg r => exact h.1
  | raw v => exact h.1
  | res v r => cases hd

structure Env (F : Fr) (G H : Hp) (σ : L2.St) (Γ : List Kd) (Fs : Nat → Addr → Prop) : Prop where
  gh : Ex G H
  bh : Ex F.B H
  g0 : Ex F.G0 G
  go : ∀ a, F.B a ≠ none → G a = F.G0 a
  len : σ.length = Γ.length
  sl : ∀ i k, Γ[i]? = some k → KAt F G H k (σ[i]?.join) (Fs i)
  dis : ∀ i j a, Fs i a → Fs j a → i = j
  fp : ∀ i a, Fs i a → F.B a = none ∧ G a = none ∧ H a ≠ none ∧ i < Γ.length
theorem eq_of_ex {H H' : Hp} {a : Addr} (e : Ex H H') (h : H a ≠ none) : H' a = H a := by
  cases q : H a with
  | none => exact absurd q h
  | some o => exact e a o q
theorem Env.grow {F : Fr} {G H G' H' : Hp} {σ : L2.St} {Γ : List Kd} {Fs : Nat → Addr → Prop} (E : Env F G H σ Γ Fs) (w : Grow G H G' H') : Env F G' H' σ Γ Fs where
  gh := w.s
  bh := E.bh.trans w.h
  g0 := E.g0.trans w.g
  go := fun a h => (w.o a (E.bh.some h)).trans (E.go a h)
  len := E.len
  sl := fun i k h => (E.sl i k h).mono w.g fun a ha => eq_of_ex w.h (E.fp i a ha).2.2.1
  dis := E.dis
  fp := fun i a ha => ⟨(E.fp i a ha).1, (w.o a (E.fp i a ha).2.2.1).trans (E.fp i a ha).2.1, w.h.some (E.fp i a ha).2.2.1, (E.fp i a ha).2.2.2⟩

theorem join_some {σ : L2.St} {i : Nat} {v : V} (h : σ[i]?.join = some v) : σ[i]? = some (some v) := by
  cases q : σ[i]? with
  | none => rw [q] at h; cases h
  | some x => rw [q] at h; exact congrArg some h
theorem join_of {σ : L2.St} {i : Nat} {v : V} (h : σ[i]? = some (some v)) : σ[i]?.join = some v := by rw [h]; rfl

theorem getElem?_set_join {σ : L2.St} {i j : Nat} {x : Option V} (h : i < σ.length) : (σ.set i x)[j]?.join = if j = i then x else σ[j]?.join := by
  by_cases e : j = i
  · subst e; rw [if_pos rfl, List.getElem?_set_self h]; rfl
  · rw [if_neg e, List.getElem?_set_ne (Ne.symm e)]
/-- a name that held nothing changeable holds a new thing -/
theorem Env.put {F : Fr} {G H : Hp} {σ : L2.St} {Γ : List Kd} {Fs : Nat → Addr → Prop} (E : Env F G H σ Γ Fs) {i : Nat} {k k' : Kd} {v : Option V} {P : Addr → Prop} (hi : Γ[i]? = some k) (hd : k.dry = true) (hk : KAt F G H k' v P)
    (hp : ∀ a, P a → F.B a = none ∧ G a = none ∧ H a ≠ none ∧ ∀ j, ¬ Fs j a) : Env F G H (σ.set i v) (Γ.set i k') (fun j => if j = i then P else Fs j) := by
  have hi' : i < Γ.length := (List.getElem?_eq_some_iff.mp hi).1
  have nd := (E.sl i k hi).dry hd
  refine ⟨E.gh, E.bh, E.g0, E.go, by rw [List.length_set, List.length_set]; exact E.len, fun j q hj => ?_, fun j l a h1 h2 => ?_, fun j a h => ?_⟩
  · rw [getElem?_set_join (by rw [E.len]; exact hi')]
    by_cases e : j = i
    · subst e
      rw [List.getElem?_set_self hi'] at hj
      obtain rfl := Option.some.inj hj
      rw [if_pos rfl]
      simpa using hk
    · rw [List.getElem?_set_ne (Ne.symm e)] at hj
      rw [if_neg e]
      simpa [e] using E.sl j q hj
  · by_cases e1 : j = i <;> by_cases e2 : l = i
    · rw [e1, e2]
    · simp only [e1, if_true, e2, if_false] at h1 h2; exact absurd h2 ((hp a h1).2.2.2 l)
    · simp only [e1, if_false, e2, if_true] at h1 h2; exact absurd h1 ((hp a h2).2.2.2 j)
    · simp only [e1, if_false, e2] at h1 h2; exact E.dis j l a h1 h2
  · by_cases e1 : j = i
    · simp only [e1, if_true] at h
      rw [e1, List.length_set]
      exact ⟨(hp a h).1, (hp a h).2.1, (hp a h).2.2.1, hi'⟩
    · simp only [e1, if_false] at h
      rw [List.length_set]
      exact E.fp j a h
/-- .. a thing that nothing changes: the footprints stay -/
theorem Env.putD {F : Fr} {G H : Hp} {σ : L2.St} {Γ : List Kd} {Fs : Nat → Addr → Prop} (E : Env F G H σ Γ Fs) {i : Nat} {k k' : Kd} {v : Option V} (hi : Γ[i]? = some k) (hd : k.dry = true) (hk : KAt F G H k' v (fun _ => False)) : Env F G H (σ.set i v) (Γ.set i k') Fs := by
  have nd := (E.sl i k hi).dry hd
  have h := E.put hi hd hk (fun a z => z.elim)
  have e : (fun j => if j = i then (fun _ => False) else Fs j) = Fs := by
    funext j a
    by_cases e : j = i
    · subst e
      rw [if_pos rfl]
      exact (eq_false (nd a)).symm
    · rw [if_neg e]
  rw [e] at h
  exact h
/-- an object of no one's grows or changes -/
theorem Env.other {F : Fr} {G H : Hp} {σ : L2.St} {Γ : List Kd} {Fs : Nat → Addr → Prop} (E : Env F G H σ Γ Fs) {p : Addr} {o : HO} (hg : G p = none) (hb : F.B p = none) (hf : ∀ i, ¬ Fs i p) : Env F G (upd H p o) σ Γ Fs := by
  have ne : ∀ {H0 : Hp}, H0 p = none → Ex H0 H → Ex H0 (upd H p o) := fun {H0} h e a u q => by
    rw [upd_ne (ne_of_none q h)]; exact e a u q
  have ot : ∀ i a, Fs i a → upd H p o a = H a := fun i a ha => upd_ne fun z => hf i (z ▸ ha)
  exact ⟨ne hg E.gh, ne hb E.bh, E.g0, E.go, E.len, fun i k h => (E.sl i k h).mono (.refl G) fun a ha => ot i a ha, E.dis, fun i a ha => ⟨(E.fp i a ha).1, (E.fp i a ha).2.1, by rw [ot i a ha]; exact (E.fp i a ha).2.2.1, (E.fp i a ha).2.2.2⟩⟩
theorem kat_val {F : Fr} {G H : Hp} {v : V} {d : PyData} (h : Rp G v d) : KAt F G H (.val d) (some v) (fun _ => False) := ⟨fun _ z => z, v, rfl, h⟩
/-- an owned thing is changed -/
theorem Env.chg {F : Fr} {G H H' : Hp} {σ : L2.St} {Γ : List Kd} {Fs : Nat → Addr → Prop} (E : Env F G H σ Γ Fs) {i : Nat} {k k' : Kd} {P : Addr → Prop} (hi : Γ[i]? = some k) (hk : KAt F G H' k' (σ[i]?.join) P)
    (hh : ∀ a, ¬ Fs i a → ∀ o, H a = some o → H' a = some o) (hp : ∀ a, P a → H' a ≠ none ∧ (Fs i a ∨ H a = none)) : Env F G H' σ (Γ.set i k') (fun j => if j = i then P else Fs j) := by
  have hi' : i < Γ.length := (List.getElem?_eq_some_iff.mp hi).1
  have old : ∀ j a, j ≠ i → Fs j a → H' a = H a := fun j a hj ha => by
    have hn : ¬ Fs i a := fun z => hj (E.dis j i a ha z)
    cases q : H a with
    | none => exact absurd q (E.fp j a ha).2.2.1
    | some o => exact hh a hn o q
  refine ⟨fun a o q => hh a (fun z => ?_) o (E.gh a o q), fun a o q => hh a (fun z => ?_) o (E.bh a o q), E.g0, E.go, by rw [List.length_set]; exact E.len, fun j q hj => ?_, fun j l a h1 h2 => ?_, fun j a h => ?_⟩
  · rw [(E.fp i a z).2.1] at q; cases q
  · rw [(E.fp i a z).1] at q; cases q
  · by_cases e : j = i
    · subst e
      rw [List.getElem?_set_self hi'] at hj
      obtain rfl := Option.some.inj hj
      simpa using hk
    · rw [List.getElem?_set_ne (Ne.symm e)] at hj
      simp only [e, if_false]
      exact (E.sl j q hj).mono (.refl G) fun a ha => old j a e ha
  · have key : ∀ l a, l ≠ i → P a → Fs l a → False := fun l a hl p f => by
      rcases (hp a p).2 with z | z
      · exact hl (E.dis l i a f z)
      · exact (E.fp l a f).2.2.1 z
    by_cases e1 : j = i <;> by_cases e2 : l = i
    · rw [e1, e2]
    · simp only [e1, if_true, e2, if_false] at h1 h2; exact (key l a e2 h1 h2).elim
    · simp only [e1, if_false, e2, if_true] at h1 h2; exact (key j a e1 h2 h1).elim
    · simp only [e1, if_false, e2] at h1 h2; exact E.dis j l a h1 h2
  · rw [List.length_set]
    by_cases e1 : j = i
    · simp only [e1, if_true] at h
      rw [e1]
      rcases (hp a h).2 with z | z
      · exact ⟨(E.fp i a z).1, (E.fp i a z).2.1, (hp a h).1, hi'⟩
      · exact ⟨E.bh.none z, E.gh.none z, (hp a h).1, hi'⟩
    · simp only [e1, if_false] at h
      exact ⟨(E.fp j a h).1, (E.fp j a h).2.1, by rw [old j a e1 h]; exact (E.fp j a h).2.2.1, (E.fp j a h).2.2.2⟩

/-! ## the weakest readings -/
section
variable {X : Cx}
def wE (X : Cx) (e : Expr) : TE := fun σ H Q => ∃ t, PE X e t ∧ t σ H Q
def wT (X : Cx) (e : Expr) : TT := fun σ H Q => ∃ t, PT X e t ∧ t σ H Q
def wA (X : Cx) (es : List Expr) : TA := fun σ H Q => ∃ t, PA X es t ∧ t σ H Q
def wS (X : Cx) (st : Stmt) : TS := fun D σ H => ∃ t, PS X st t ∧ t D σ H
def wSs (X : Cx) (st : List Stmt) : TS := fun D σ H => ∃ t, PSs X st t ∧ t D σ H
theorem pe_w {e : Expr} : PE X e (wE X e) := ⟨fun pins s σ H Q I h => by obtain ⟨t, p, q⟩ := h; exact p.run pins s σ H Q I q⟩
theorem pt_w {e : Expr} : PT X e (wT X e) := ⟨fun pins s σ H Q I h => by obtain ⟨t, p, q⟩ := h; exact p.run pins s σ H Q I q⟩
theorem pa_w {es : List Expr} : PA X es (wA X es) := ⟨fun pos pins s σ H Q I h => by obtain ⟨t, p, q⟩ := h; exact p.run pos pins s σ H Q I q⟩
theorem ps_w {st : Stmt} : PS X st (wS X st) := ⟨fun pins s σ H D I h => by obtain ⟨t, p, q⟩ := h; exact p.run pins s σ H D I q⟩
theorem pss_w {st : List Stmt} : PSs X st (wSs X st) := ⟨fun pins s σ H D I h => by obtain ⟨t, p, q⟩ := h; exact p.run pins s σ H D I q⟩
/-- an operator, its rule chosen by what came -/
def wOp (X : Cx) (f : Value → Value → Sem Value) : R2 := fun x y H Q => ∃ r, OpR X f r ∧ r x y H Q
theorem op_w {f : Value → Value → Sem Value} : OpR X f (wOp X f) := fun pins s σ H x y u v Q I rx ry h => by
  obtain ⟨r, p, q⟩ := h; exact p pins s σ H x y u v Q I rx ry q
def wUn (X : Cx) (f : Value → Sem Value) : V → Hp → VK → Prop := fun x H Q => ∃ r, UnR X f r ∧ r x H Q
theorem un_w {f : Value → Sem Value} : UnR X f (wUn X f) := fun pins s σ H x u Q I rx h => by
  obtain ⟨r, p, q⟩ := h; exact p pins s σ H x u Q I rx q
def wIx (X : Cx) : R2 := fun x y H Q => ∃ r, IxR X r ∧ r x y H Q
theorem ix_w : IxR X (wIx X) := fun value slice pins s σ H x y u v Q I rx ry h hs => by
  obtain ⟨r, p, q⟩ := h; exact p value slice pins s σ H x y u v Q I rx ry q hs
def wCall (X : Cx) (f : Value) : List V → Hp → VK → Prop := fun xs H Q => ∃ r, CallR X f r ∧ r xs H Q
theorem call_w {f : Value} : CallR X f (wCall X f) := fun pins s σ H xs us Q I rx h => by
  obtain ⟨r, p, q⟩ := h; exact p pins s σ H xs us Q I rx q
end
end Rn

namespace Rn
open PySem PySem.Spec PyProof.Rows L2

/-! ## what holds of the place where one stands -/
instance {sc : Scope} {x : Str} : Decidable (Vis sc x) := inferInstanceAs (Decidable (_ ∨ _ ∨ _))
instance {sc : Scope} {x : Str} : Decidable (Loc sc x) := inferInstanceAs (Decidable (_ ∨ _))
structure Cok (X : Cx) (M : Md) (F : Fr) (N : List Str) (sc : Scope) (k : Nat) : Prop where
  hP : X.prog = M.P
  hw : X.w = M.w
  hK : X.K = M.K
  hF : F.K = M.K
  hM : X.mg = M.mg
  hb : X.base = M.base
  hN : X.N = N
  hs : X.env.scope = sc
  nd : N.Nodup
  calm : X.calm = true
  room : Room k X.A
inductive Sel : List Str → List Kd → Str → Nat → Kd → Prop
  | here {x : Str} {N : List Str} {k : Kd} {Γ : List Kd} : Sel (x :: N) (k :: Γ) x 0 k
  | there {x y : Str} {N : List Str} {k k' : Kd} {Γ : List Kd} {i : Nat} : Sel N Γ x i k → Sel (y :: N) (k' :: Γ) x (i + 1) k
theorem Sel.n {N : List Str} {Γ : List Kd} {x : Str} {i : Nat} {k : Kd} (h : Sel N Γ x i k) : N[i]? = some x := by
  induction h with
  | here => rfl
  | there _ ih => simpa using ih
theorem Sel.k {N : List Str} {Γ : List Kd} {x : Str} {i : Nat} {k : Kd} (h : Sel N Γ x i k) : Γ[i]? = some k := by
  induction h with
  | here => rfl
  | there _ ih => simpa using ih

inductive Kx : List Kd → Nat → Kd → Prop
  | here {k : Kd} {Γ : List Kd} : Kx (k :: Γ) 0 k
  | there {k k' : Kd} {Γ : List Kd} {i : Nat} : Kx Γ i k → Kx (k' :: Γ) (i + 1) k
theorem Kx.kd {Γ : List Kd} {i : Nat} {k : Kd} (h : Kx Γ i k) : Γ[i]? = some k := by
  induction h with
  | here => rfl
  | there _ ih => simpa using ih
/-! ## a pure expression: its datum -/
/-- the datum d -/
def EP (X : Cx) (F : Fr) (Γ : List Kd) (e : Expr) (d : PyData) : Prop := ∀ σ G H Fs, Env F G H σ Γ Fs → ∀ Q : VK, (∀ v G' H', Grow G H G' H' → Rp G' v d → Q v H') → wE X e σ H Q
/-- some list (that may still be changed, not now) whose items are ds -/
def LP (X : Cx) (F : Fr) (Γ : List Kd) (e : Expr) (ds : List PyData) : Prop := ∀ σ G H Fs, Env F G H σ Γ Fs → ∀ Q : VK, (∀ a vs G' H', Grow G H G' H' → H' a = some (.lst vs) → ds.length ≤ cap → RpL G' vs ds → Q (.ref a) H') → wE X e σ H Q
/-- a new list whose items are ds -/
def NP (X : Cx) (F : Fr) (Γ : List Kd) (e : Expr) (ds : List PyData) : Prop := ∀ σ G H Fs, Env F G H σ Γ Fs → ∀ Q : VK, (∀ a vs G' H', Grow G H G' H' → H a = none → G' a = none → H' a = some (.lst vs) → ds.length ≤ cap → RpL G' vs ds → Q (.ref a) H') → wE X e σ H Q
/-- arguments -/
def AP_ (X : Cx) (F : Fr) (Γ : List Kd) (es : List Expr) (ds : List PyData) : Prop := ∀ σ G H Fs, Env F G H σ Γ Fs → ∀ Q : List V → Hp → Prop, (∀ vs G' H', Grow G H G' H' → RpL G' vs ds → Q vs H') → wA X es σ H Q
def TP_ (X : Cx) (F : Fr) (Γ : List Kd) (c : Expr) (b : Bool) : Prop := ∀ σ G H Fs, Env F G H σ Γ Fs → ∀ Q : Bool → Hp → Prop, (∀ G' H', Grow G H G' H' → Q b H') → wT X c σ H Q

section
variable {X : Cx} {M : Md} {F : Fr} {N : List Str} {sc : Scope} {kk : Nat} {Γ : List Kd} {e a b c : Expr} {es : List Expr} {d da db : PyData} {ds : List PyData} {pos : Pos} {x : Str} {i : Nat} {k : Kd}

/-- freezing -/
theorem Grow.freeze {G H G' H' : Hp} (w : Grow G H G' H') {p : Addr} {o : HO} (hn : H p = none) (hg : G' p = none) (hp : H' p = some o) : Grow G H (upd G' p o) H' := by
  refine ⟨w.g.trans (.new hg), fun a u q => ?_, w.h, fun a z => ?_⟩
  · by_cases k : a = p
    · subst k; rw [upd_same] at q; rw [hp]; exact q
    · rw [upd_ne k] at q; exact w.s _ _ q
  · have : a ≠ p := fun k => z (k ▸ hn)
    rw [upd_ne this]; exact w.o a z
theorem NP.ep (h : NP X F Γ e ds) : EP X F Γ e (.list ds) := fun σ G H Fs E Q q => h σ G H Fs E Q fun a vs G' H' w hn hg hp hl r =>
  q _ _ _ (w.freeze hn hg hp) (.lst upd_same hl (r.mono (.new hg)))
theorem NP.lp (h : NP X F Γ e ds) : LP X F Γ e ds := fun σ G H Fs E Q q => h σ G H Fs E Q fun a vs G' H' w _ _ hp hl r => q a vs G' H' w hp hl r
theorem EP.lp (h : EP X F Γ e (.list ds)) : LP X F Γ e ds := fun σ G H Fs E Q q => h σ G H Fs E Q fun v G' H' w r => by
  obtain ⟨a, vs, rfl, h1, h2, h3⟩ := r.lst_inv
  exact q a vs G' H' w (w.s _ _ h1) h2 h3
theorem EP.eq {d' : PyData} (h : EP X F Γ e d) (e' : d = d') : EP X F Γ e d' := e' ▸ h
theorem LP.eq {ds' : List PyData} (h : LP X F Γ e ds) (e' : ds = ds') : LP X F Γ e ds' := e' ▸ h
theorem TP_.eq {t t' : Bool} (h : TP_ X F Γ e t) (e' : t = t') : TP_ X F Γ e t' := e' ▸ h

/-! ### constants and names -/
theorem ep_int {j : Int} {u : Nat} : EP X F Γ (.Constant (.int j) u pos) (.int j) := fun σ G H Fs E Q q => ⟨_, pe_int, q _ _ _ (.refl E.gh) .int⟩
theorem ep_bool {t : Bool} {u : Nat} : EP X F Γ (.Constant (.bool t) u pos) (.bool t) := fun σ G H Fs E Q q => ⟨_, pe_bl, q _ _ _ (.refl E.gh) .bl⟩
theorem ep_none {u : Nat} : EP X F Γ (.Constant .none u pos) .none := fun σ G H Fs E Q q => ⟨_, pe_non, q _ _ _ (.refl E.gh) .non⟩
theorem ep_str {s : Str} {u : Nat} : EP X F Γ (.Constant (.str s) u pos) (.str s) := fun σ G H Fs E Q q => ⟨_, pe_str, q _ _ _ (.refl E.gh) .str⟩
theorem w_name (C : Cok X M F N sc kk) (h : Sel N Γ x i k) (hv : Vis sc x) {σ : L2.St} {H : Hp} {v : V} (hs : σ[i]?.join = some v) {Q : VK} (q : Q v H)
    (hd : (x == ("__debug__" : Str)) = false := by decide) (hcd : (x == ("__classdict__" : Str)) = false := by decide) : wE X (.Name x pos) σ H Q :=
  ⟨_, pe_var (i := i) (by rw [C.hN]; exact h.n) (by rw [C.hs]; exact hv) hd hcd, v, join_some hs, q⟩
theorem ep_name (C : Cok X M F N sc kk) (h : Sel N Γ x i (.val d)) (hv : Vis sc x) (hd : (x == ("__debug__" : Str)) = false := by decide) (hcd : (x == ("__classdict__" : Str)) = false := by decide) : EP X F Γ (.Name x pos) d := fun σ G H Fs E Q q => by
  obtain ⟨_, v, h1, h2⟩ := E.sl i _ h.k
  exact w_name C h hv h1 (q v G H (.refl E.gh) h2) hd hcd
theorem lp_own {v : V} (C : Cok X M F N sc kk) (h : Sel N Γ x i (.own v ds)) (hv : Vis sc x) (hd : (x == ("__debug__" : Str)) = false := by decide) (hcd : (x == ("__classdict__" : Str)) = false := by decide) : LP X F Γ (.Name x pos) ds := fun σ G H Fs E Q q => by
  obtain ⟨h1, a, vs, rfl, _, h3, h4, h5⟩ := E.sl i _ h.k
  exact w_name C h hv h1 (q a vs G H (.refl E.gh) h3 h4 h5) hd hcd
theorem lp_arg (C : Cok X M F N sc kk) (h : Sel N Γ x i (.arg (.lst ds))) (hv : Vis sc x) (hd : (x == ("__debug__" : Str)) = false := by decide) (hcd : (x == ("__classdict__" : Str)) = false := by decide) : LP X F Γ (.Name x pos) ds := fun σ G H Fs E Q q => by
  obtain ⟨_, v, h1, a, vs, rfl, h3, h4, h5⟩ := E.sl i _ h.k
  exact w_name C h hv h1 (q a vs G H (.refl E.gh) (E.bh _ _ h3) h4 h5) hd hcd

/-! ### operators -/
/-- an operator on data -/
def DOp (X : Cx) (f : Value → Value → Sem Value) (da db d : PyData) : Prop := ∀ G H x y, Ex G H → Rp G x da → Rp G y db → ∀ Q : VK, (∀ v G' H', Grow G H G' H' → Rp G' v d → Q v H') → wOp X f x y H Q
theorem ep_bin {op : Operator} (ha : EP X F Γ a da) (hb : EP X F Γ b db) (ho : DOp X (binaryOp op) da db d) : EP X F Γ (.BinOp a op b pos) d := fun σ G H Fs E Q q => by
  refine ⟨_, pe_op op_w pe_w pe_w, ?_⟩
  refine ha σ G H Fs E _ fun x G1 H1 w1 r1 => hb σ G1 H1 Fs (E.grow w1) _ fun y G2 H2 w2 r2 => ?_
  exact ho G2 H2 x y w2.s (r1.mono w2.g) r2 Q fun v G3 H3 w3 r3 => q v G3 H3 ((w1.trans w2).trans w3) r3
theorem ep_cmp {op : CmpOp} (ha : EP X F Γ a da) (hb : EP X F Γ b db) (ho : DOp X (compareOp op) da db d) (hm : behindInMarks op b = false := by first | rfl | exact nomark _) : EP X F Γ (.Compare a [op] [b] pos) d := fun σ G H Fs E Q q => by
  refine ⟨_, pe_cmpR op_w pe_w pe_w hm, ?_⟩
  refine ha σ G H Fs E _ fun x G1 H1 w1 r1 => hb σ G1 H1 Fs (E.grow w1) _ fun y G2 H2 w2 r2 => ?_
  exact ho G2 H2 x y w2.s (r1.mono w2.g) r2 Q fun v G3 H3 w3 r3 => q v G3 H3 ((w1.trans w2).trans w3) r3
theorem dop_i0 {f : Value → Value → Sem Value} {g : Int → Int → V} {g' : Int → Int → PyData} (h : OpR X f (rI0 g)) (hg : ∀ G i j, Rp G (g i j) (g' i j)) {m n : Int} : DOp X f (.int m) (.int n) (g' m n) := fun G H x y s rx ry Q q => by
  obtain rfl := rx.int_inv
  obtain rfl := ry.int_inv
  exact ⟨_, h, m, n, rfl, rfl, q _ _ _ (.refl s) (hg _ _ _)⟩
theorem dop_i {f : Value → Value → Sem Value} {P : Int → Int → Prop} {g : Int → Int → V} {g' : Int → Int → PyData} (h : OpR X f (rI P g)) (hg : ∀ G i j, Rp G (g i j) (g' i j)) {m n : Int} (hp : P m n) : DOp X f (.int m) (.int n) (g' m n) := fun G H x y s rx ry Q q => by
  obtain rfl := rx.int_inv
  obtain rfl := ry.int_inv
  exact ⟨_, h, m, n, rfl, rfl, hp, q _ _ _ (.refl s) (hg _ _ _)⟩
theorem do_add {m n : Int} : DOp X (binaryOp .Add) (.int m) (.int n) (.int (m + n)) := dop_i0 (g' := fun i j => .int (i + j)) op_add fun _ _ _ => .int
theorem do_sub {m n : Int} : DOp X (binaryOp .Sub) (.int m) (.int n) (.int (m - n)) := dop_i0 (g' := fun i j => .int (i - j)) op_sub fun _ _ _ => .int
theorem do_mul {m n : Int} (h : CMul m n) : DOp X (binaryOp .Mult) (.int m) (.int n) (.int (m * n)) := dop_i (g' := fun i j => .int (i * j)) op_mul (fun _ _ _ => .int) h
theorem do_mod {m n : Int} (h : 0 < n) : DOp X (binaryOp .Mod) (.int m) (.int n) (.int (m % n)) := dop_i (P := fun _ j => 0 < j) (g' := fun i j => .int (i % j)) op_mod (fun _ _ _ => .int) h
theorem do_div {m n : Int} (h : CDiv m n) : DOp X (binaryOp .FloorDiv) (.int m) (.int n) (.int (m / n)) := dop_i (g' := fun i j => .int (i / j)) op_fdiv (fun _ _ _ => .int) h
theorem do_pow {m n : Int} (h : CPow m n) : DOp X (binaryOp .Pow) (.int m) (.int n) (.int (m ^ n.toNat)) := dop_i (g' := fun i j => .int (i ^ j.toNat)) op_pow (fun _ _ _ => .int) h
theorem do_xor {m n : Int} : DOp X (binaryOp .BitXor) (.int m) (.int n) (.int (Builtin.bitXor m n)) := dop_i0 (g' := fun i j => .int (Builtin.bitXor i j)) op_xor fun _ _ _ => .int
theorem do_lt {m n : Int} : DOp X (compareOp .Lt) (.int m) (.int n) (.bool (decide (m < n))) := dop_i0 (g' := fun i j => .bool (decide (i < j))) op_lt fun _ _ _ => .bl
theorem do_le {m n : Int} : DOp X (compareOp .LtE) (.int m) (.int n) (.bool (decide (m ≤ n))) := dop_i0 (g' := fun i j => .bool (decide (i ≤ j))) op_le fun _ _ _ => .bl
theorem do_gt {m n : Int} : DOp X (compareOp .Gt) (.int m) (.int n) (.bool (decide (n < m))) := dop_i0 (g' := fun i j => .bool (decide (j < i))) op_gt fun _ _ _ => .bl
theorem do_ge {m n : Int} : DOp X (compareOp .GtE) (.int m) (.int n) (.bool (decide (n ≤ m))) := dop_i0 (g' := fun i j => .bool (decide (j ≤ i))) op_ge fun _ _ _ => .bl
theorem do_eqI {m n : Int} : DOp X (compareOp .Eq) (.int m) (.int n) (.bool (decide (m = n))) := fun G H x y s rx ry Q q => by
  obtain rfl := rx.int_inv
  obtain rfl := ry.int_inv
  refine ⟨_, op_eq, rfl, ?_⟩
  rw [show decide (V.int m = V.int n) = decide (m = n) from by simp]
  exact q _ _ _ (.refl s) .bl
theorem do_neI {m n : Int} : DOp X (compareOp .NotEq) (.int m) (.int n) (.bool (!decide (m = n))) := fun G H x y s rx ry Q q => by
  obtain rfl := rx.int_inv
  obtain rfl := ry.int_inv
  refine ⟨_, op_ne, rfl, ?_⟩
  rw [show decide (V.int m = V.int n) = decide (m = n) from by simp]
  exact q _ _ _ (.refl s) .bl
theorem do_eqB {m n : Bool} : DOp X (compareOp .Eq) (.bool m) (.bool n) (.bool (decide (m = n))) := fun G H x y s rx ry Q q => by
  obtain rfl := rx.bl_inv
  obtain rfl := ry.bl_inv
  refine ⟨_, op_eq, rfl, ?_⟩
  rw [show decide (V.bl m = V.bl n) = decide (m = n) from by simp]
  exact q _ _ _ (.refl s) .bl
theorem do_neB {m n : Bool} : DOp X (compareOp .NotEq) (.bool m) (.bool n) (.bool (!decide (m = n))) := fun G H x y s rx ry Q q => by
  obtain rfl := rx.bl_inv
  obtain rfl := ry.bl_inv
  refine ⟨_, op_ne, rfl, ?_⟩
  rw [show decide (V.bl m = V.bl n) = decide (m = n) from by simp]
  exact q _ _ _ (.refl s) .bl
theorem do_eqS {m n : Str} : DOp X (compareOp .Eq) (.str m) (.str n) (.bool (decide (m = n))) := fun G H x y s rx ry Q q => by
  obtain rfl := rx.str_inv
  obtain rfl := ry.str_inv
  refine ⟨_, op_eq, rfl, ?_⟩
  rw [show decide (V.str m = V.str n) = decide (m = n) from by simp]
  exact q _ _ _ (.refl s) .bl
theorem do_neS {m n : Str} : DOp X (compareOp .NotEq) (.str m) (.str n) (.bool (!decide (m = n))) := fun G H x y s rx ry Q q => by
  obtain rfl := rx.str_inv
  obtain rfl := ry.str_inv
  refine ⟨_, op_ne, rfl, ?_⟩
  rw [show decide (V.str m = V.str n) = decide (m = n) from by simp]
  exact q _ _ _ (.refl s) .bl
/-- deep ==, != -/
theorem do_eqD (hu : X.A.units + 64 < cLine) (h1 : SeqAt.shaped da = true) (h2 : SeqAt.shaped db = true) : DOp X (compareOp .Eq) da db (.bool (PyData.eqv da db)) := fun G H x y s rx ry Q q =>
  ⟨_, op_eqD hu, da, db, rx.dp s, ry.dp s, h1, h2, q _ _ _ (.refl s) .bl⟩
theorem do_neD (hu : X.A.units + 64 < cLine) (h1 : SeqAt.shaped da = true) (h2 : SeqAt.shaped db = true) : DOp X (compareOp .NotEq) da db (.bool (!PyData.eqv da db)) := fun G H x y s rx ry Q q =>
  ⟨_, op_neD hu, da, db, rx.dp s, ry.dp s, h1, h2, q _ _ _ (.refl s) .bl⟩
theorem do_isN : DOp X (compareOp .Is) da .none (.bool (match da with | .none => true | _ => false)) := fun G H x y s rx ry Q q => by
  obtain rfl := ry.non_inv
  refine ⟨_, op_isN, rfl, ?_⟩
  cases rx <;> exact q _ _ _ (.refl s) .bl
theorem do_notN : DOp X (compareOp .IsNot) da .none (.bool (match da with | .none => false | _ => true)) := fun G H x y s rx ry Q q => by
  obtain rfl := ry.non_inv
  refine ⟨_, op_notN, rfl, ?_⟩
  cases rx <;> exact q _ _ _ (.refl s) .bl
theorem ep_neg {j : Int} (ha : EP X F Γ a (.int j)) : EP X F Γ (.UnaryOp .USub a pos) (.int (-j)) := fun σ G H Fs E Q q => by
  refine ⟨_, pe_un un_neg pe_w, ?_⟩
  refine ha σ G H Fs E _ fun x G1 H1 w1 r1 => ?_
  obtain rfl := r1.int_inv
  exact ⟨j, rfl, q _ _ _ w1 .int⟩

/-! ### tests -/
theorem tp_val {t : Bool} (h : EP X F Γ e (.bool t)) (he : ∀ whole, isTrue e X.env whole = (do let v ← whole; standAt e.pos; holding [v] (truthy v)) := by intro _; rfl) : TP_ X F Γ e t := fun σ G H Fs E Q q => by
  refine ⟨_, pt_val pe_w he, ?_⟩
  refine h σ G H Fs E _ fun x G1 H1 w1 r1 => ?_
  obtain rfl := r1.bl_inv
  exact ⟨t, rfl, q _ _ w1⟩
theorem tp_cmp {op : CmpOp} {t : Bool} (ha : EP X F Γ a da) (hb : EP X F Γ b db) (ho : DOp X (compareOp op) da db (.bool t)) (hm : behindInMarks op b = false := by first | rfl | exact nomark _) : TP_ X F Γ (.Compare a [op] [b] pos) t := fun σ G H Fs E Q q => by
  refine ⟨_, pt_cmpR op_w pe_w pe_w hm, ?_⟩
  refine ha σ G H Fs E _ fun x G1 H1 w1 r1 => hb σ G1 H1 Fs (E.grow w1) _ fun y G2 H2 w2 r2 => ?_
  refine ho G2 H2 x y w2.s (r1.mono w2.g) r2 _ fun v G3 H3 w3 r3 => ?_
  obtain rfl := r3.bl_inv
  exact ⟨t, rfl, q _ _ ((w1.trans w2).trans w3)⟩
theorem tp_not {t : Bool} (h : TP_ X F Γ a t) : TP_ X F Γ (.UnaryOp .Not a pos) (!t) := fun σ G H Fs E Q q =>
  ⟨_, pt_not pt_w, h σ G H Fs E _ fun G1 H1 w1 => q _ _ w1⟩
def WT (X : Cx) (F : Fr) (Γ : List Kd) (c : Expr) (b : Bool) : Prop := ∀ σ G H Fs, Env F G H σ Γ Fs → ∀ Q : Bool → Hp → Prop, (∀ G' H', Grow G H G' H' → Q b H') → ∃ t, PW X c t ∧ t σ H Q
def wW (X : Cx) (c : Expr) : TT := fun σ H Q => ∃ t, PW X c t ∧ t σ H Q
theorem pw_w : PW X e (wW X e) := ⟨fun whole pins s σ H Q I h => by obtain ⟨t, p, q⟩ := h; exact p.run whole pins s σ H Q I q⟩
theorem WT.tp {t : Bool} (h : WT X F Γ e t) : TP_ X F Γ e t := fun σ G H Fs E Q q => ⟨_, pw_w.pt, h σ G H Fs E Q q⟩
theorem wt_and1 {t : Bool} (h : TP_ X F Γ a t) : WT X F Γ (.BoolOp .And [a] pos) t := fun σ G H Fs E Q q => ⟨_, pw_and1 pt_w, h σ G H Fs E Q q⟩
theorem wt_or1 {t : Bool} (h : TP_ X F Γ a t) : WT X F Γ (.BoolOp .Or [a] pos) t := fun σ G H Fs E Q q => ⟨_, pw_or1 pt_w, h σ G H Fs E Q q⟩
theorem wt_and {t u : Bool} (h : TP_ X F Γ a t) (h2 : t = true → WT X F Γ (.BoolOp .And (b :: es) pos) u) : WT X F Γ (.BoolOp .And (a :: b :: es) pos) (t && u) := fun σ G H Fs E Q q => by
  refine ⟨_, pw_and pt_w pw_w, h σ G H Fs E _ fun G1 H1 w1 => ?_⟩
  cases t with
  | true => exact iteT (h2 rfl σ G1 H1 Fs (E.grow w1) Q fun G2 H2 w2 => q _ _ (w1.trans w2))
  | false => exact iteF (q _ _ w1)
theorem wt_or {t u : Bool} (h : TP_ X F Γ a t) (h2 : t = false → WT X F Γ (.BoolOp .Or (b :: es) pos) u) : WT X F Γ (.BoolOp .Or (a :: b :: es) pos) (t || u) := fun σ G H Fs E Q q => by
  refine ⟨_, pw_or pt_w pw_w, h σ G H Fs E _ fun G1 H1 w1 => ?_⟩
  cases t with
  | true => exact iteT (q _ _ w1)
  | false => exact iteF (h2 rfl σ G1 H1 Fs (E.grow w1) Q fun G2 H2 w2 => q _ _ (w1.trans w2))
/-! ### and, or, not, if as values -/
theorem ep_one {op : BoolOp} (h : EP X F Γ a d) : EP X F Γ (.BoolOp op [a] pos) d := fun σ G H Fs E Q q => ⟨_, pe_one pe_w, h σ G H Fs E Q q⟩
theorem ep_and {t u : Bool} (h : EP X F Γ a (.bool t)) (h2 : t = true → EP X F Γ (.BoolOp .And (b :: es) pos) (.bool u)) : EP X F Γ (.BoolOp .And (a :: b :: es) pos) (.bool (t && u)) := fun σ G H Fs E Q q => by
  refine ⟨_, pe_and pe_w pe_w, h σ G H Fs E _ fun x G1 H1 w1 r1 => ?_⟩
  obtain rfl := r1.bl_inv
  refine ⟨t, rfl, ?_⟩
  cases t with
  | true => exact iteT (h2 rfl σ G1 H1 Fs (E.grow w1) Q fun v G2 H2 w2 r2 => q _ _ _ (w1.trans w2) r2)
  | false => exact iteF (q _ _ _ w1 .bl)
theorem ep_or {t u : Bool} (h : EP X F Γ a (.bool t)) (h2 : t = false → EP X F Γ (.BoolOp .Or (b :: es) pos) (.bool u)) : EP X F Γ (.BoolOp .Or (a :: b :: es) pos) (.bool (t || u)) := fun σ G H Fs E Q q => by
  refine ⟨_, pe_or pe_w pe_w, h σ G H Fs E _ fun x G1 H1 w1 r1 => ?_⟩
  obtain rfl := r1.bl_inv
  refine ⟨t, rfl, ?_⟩
  cases t with
  | true => exact iteT (q _ _ _ w1 .bl)
  | false => exact iteF (h2 rfl σ G1 H1 Fs (E.grow w1) Q fun v G2 H2 w2 r2 => q _ _ _ (w1.trans w2) r2)
theorem ep_not {t : Bool} (h : EP X F Γ a (.bool t)) : EP X F Γ (.UnaryOp .Not a pos) (.bool (!t)) := fun σ G H Fs E Q q => by
  refine ⟨_, pe_not pe_w, h σ G H Fs E _ fun x G1 H1 w1 r1 => ?_⟩
  obtain rfl := r1.bl_inv
  exact ⟨t, rfl, q _ _ _ w1 .bl⟩
theorem ep_ife {t : Bool} (h : TP_ X F Γ c t) (h1 : t = true → EP X F Γ a da) (h2 : t = false → EP X F Γ b db) : EP X F Γ (.IfExp c a b pos) (if t then da else db) := fun σ G H Fs E Q q => by
  refine ⟨_, pe_ifExp pt_w pe_w pe_w, h σ G H Fs E _ fun G1 H1 w1 => ?_⟩
  cases t with
  | true => exact iteT (h1 rfl σ G1 H1 Fs (E.grow w1) Q fun v G2 H2 w2 r2 => q _ _ _ (w1.trans w2) r2)
  | false => exact iteF (h2 rfl σ G1 H1 Fs (E.grow w1) Q fun v G2 H2 w2 r2 => q _ _ _ (w1.trans w2) r2)

/-! ### arguments, displays -/
def plainE : Expr → Bool
  | .Starred .. => false
  | _ => true
theorem star_plain {e : Expr} (h : plainE e = true) (es : List Expr) (env : PySem.Env) : starEach (e :: es) env = (false, eval e env) :: starEach es env := by
  cases e <;> first | rfl | cases h
theorem back_plain {pos : Pos} {env : PySem.Env} : ∀ {es : List Expr}, es.all plainE = true → (backTo pos (starEach es env)).any (·.1) = false
  | [], _ => rfl
  | e :: es, h => by
    rw [List.all_cons, Bool.and_eq_true] at h
    rw [star_plain h.1]
    have ih := back_plain (pos := pos) (env := env) h.2
    unfold backTo at ih ⊢
    simpa using ih
theorem ap_nil : AP_ X F Γ [] [] := fun σ G H Fs E Q q => ⟨_, pa_nil, q _ _ _ (.refl E.gh) .nil⟩
theorem ap_cons (h : EP X F Γ e d) (hr : AP_ X F Γ es ds) (hs : plainE e = true := by rfl) : AP_ X F Γ (e :: es) (d :: ds) := fun σ G H Fs E Q q => by
  refine ⟨_, pa_cons pe_w pa_w (star_plain hs _ _), h σ G H Fs E _ fun x G1 H1 w1 r1 => hr σ G1 H1 Fs (E.grow w1) _ fun vs G2 H2 w2 r2 => q _ _ _ (w1.trans w2) (.cons (r1.mono w2.g) r2)⟩
theorem np_lst (h : AP_ X F Γ es ds) (hl : ds.length ≤ cap := by simp [cap]) : NP X F Γ (.List es pos) ds := fun σ G H Fs E Q q => by
  refine ⟨_, pe_lst pa_w, h σ G H Fs E _ fun vs G1 H1 w1 r1 => ⟨by rw [r1.len]; exact cap_le hl, fun p hp => ?_⟩⟩
  exact q p vs G1 (upd H1 p (.lst vs)) (w1.trans (.raw w1.s hp)) (w1.h.none hp) (w1.s.none hp) upd_same hl r1
theorem ep_tup (h : AP_ X F Γ es ds) (hl : ds.length ≤ cap := by simp [cap]) {u : Nat} : EP X F Γ (.Tuple es u pos) (.tuple ds) := fun σ G H Fs E Q q => by
  refine ⟨_, pe_tup pa_w, h σ G H Fs E _ fun vs G1 H1 w1 r1 => ⟨by rw [r1.len]; exact cap_le hl, fun p hp => ?_⟩⟩
  exact q _ _ _ (w1.trans (.new w1.s hp)) (.tup upd_same hl (r1.mono (.new (w1.s.none hp))))
end
end Rn

namespace Rn
open PySem PySem.Spec PyProof.Rows L2

section
variable {X : Cx} {M : Md} {F : Fr} {N : List Str} {sc : Scope} {kk : Nat} {Γ : List Kd} {e a b c : Expr} {es : List Expr} {d da db : PyData} {ds : List PyData} {pos : Pos} {x : Str} {i : Nat} {k : Kd}

/-! ### items, slices -/
theorem RpL.at_ {G : Hp} {vs : List V} {ds : List PyData} {j : Int} {d : PyData} (r : RpL G vs ds) (h : atI ds j = some d) : ∃ v, atI vs j = some v ∧ Rp G v d := by
  unfold atI at h ⊢
  rw [r.len]
  cases q : ixN ds.length j with
  | none => rw [q] at h; cases h
  | some n =>
    rw [q] at h
    obtain ⟨v, h1, h2⟩ := r.get (i := n) h
    exact ⟨v, h1, h2⟩
theorem ep_ixL {j : Int} (ha : LP X F Γ a ds) (hb : EP X F Γ b (.int j)) (hj : atI ds j = some d) (hs : PlainIx b := by exact fun _ _ => rfl) : EP X F Γ (.Subscript a b pos) d := fun σ G H Fs E Q q => by
  refine ⟨_, pe_ix ix_w pe_w pe_w hs, ?_⟩
  refine ha σ G H Fs E _ fun p vs G1 H1 w1 h1 hl r1 => hb σ G1 H1 Fs (E.grow w1) _ fun y G2 H2 w2 r2 => ?_
  obtain rfl := r2.int_inv
  obtain ⟨v, hv, rv⟩ := (r1.mono w2.g).at_ hj
  exact ⟨_, ix_list, p, vs, j, v, rfl, rfl, .inl (.inl (w2.h _ _ h1)), hv, q v G2 H2 (w1.trans w2) rv⟩
theorem ep_ixT {j : Int} (ha : EP X F Γ a (.tuple ds)) (hb : EP X F Γ b (.int j)) (hj : atI ds j = some d) (hs : PlainIx b := by exact fun _ _ => rfl) : EP X F Γ (.Subscript a b pos) d := fun σ G H Fs E Q q => by
  refine ⟨_, pe_ix ix_w pe_w pe_w hs, ?_⟩
  refine ha σ G H Fs E _ fun x G1 H1 w1 r1 => hb σ G1 H1 Fs (E.grow w1) _ fun y G2 H2 w2 r2 => ?_
  obtain rfl := r2.int_inv
  obtain ⟨p, vs, rfl, h1, hl, r1⟩ := r1.tup_inv
  obtain ⟨v, hv, rv⟩ := (r1.mono w2.g).at_ hj
  exact ⟨_, ix_tup, p, vs, j, v, rfl, rfl, .inl (.inl (w2.s _ _ (w2.g _ _ h1))), hv, q v G2 H2 (w1.trans w2) rv⟩
theorem atI_map {α : Type} [Inhabited α] {f : α → PyData} {xs : List α} {j : Int} (h0 : 0 ≤ j) (h1 : j < xs.length) : atI (xs.map f) j = some (f (xs.getD j.toNat default)) := by
  have hj : j.toNat < xs.length := by omega
  unfold atI ixN
  rw [if_pos h0, List.length_map, if_pos h1]
  show (xs.map f)[j.toNat]? = _
  rw [List.getElem?_map, List.getElem?_eq_getElem hj, List.getD_eq_getElem?_getD, List.getElem?_eq_getElem hj]
  rfl
theorem atI_neg {α : Type} {xs : List α} {j : Int} {d : α} (h0 : j < 0) (h1 : -(xs.length : Int) ≤ j) (h : xs[(j + xs.length).toNat]? = some d) : atI xs j = some d := by
  unfold atI ixN
  rw [if_neg (by omega), if_pos h1]
  exact h
/-- an item of a list of one kind -/
theorem ep_ixM {α : Type} [Inhabited α] {f : α → PyData} {xs : List α} {j : Int} (ha : LP X F Γ a (xs.map f)) (hb : EP X F Γ b (.int j)) (h0 : 0 ≤ j) (h1 : j < xs.length) (hs : PlainIx b := by exact fun _ _ => rfl) :
    EP X F Γ (.Subscript a b pos) (f (xs.getD j.toNat default)) := ep_ixL ha hb (atI_map h0 h1) hs
theorem ep_ixMT {α : Type} [Inhabited α] {f : α → PyData} {xs : List α} {j : Int} (ha : EP X F Γ a (.tuple (xs.map f))) (hb : EP X F Γ b (.int j)) (h0 : 0 ≤ j) (h1 : j < xs.length) (hs : PlainIx b := by exact fun _ _ => rfl) :
    EP X F Γ (.Subscript a b pos) (f (xs.getD j.toNat default)) := ep_ixT ha hb (atI_map h0 h1) hs
/-- a part of a list -/
def cutG {α : Type} (xs : List α) (lo hi : Option Int) : List α := (xs.drop (HT.sIx xs.length 0 lo)).take (HT.sIx xs.length xs.length hi - HT.sIx xs.length 0 lo)
theorem cutG_map {α β : Type} (f : α → β) (xs : List α) (lo hi : Option Int) : (cutG xs lo hi).map f = cutG (xs.map f) lo hi := by
  unfold cutG; rw [List.map_take, List.map_drop, List.length_map]
theorem cutG_len {α : Type} (xs : List α) (lo hi : Option Int) : (cutG xs lo hi).length ≤ xs.length := by
  unfold cutG; rw [List.length_take, List.length_drop]; omega
theorem RpL.cut {G : Hp} {vs : List V} {ds : List PyData} (r : RpL G vs ds) (lo hi : Option Int) : RpL G (cutG vs lo hi) (cutG ds lo hi) := by
  unfold cutG; rw [r.len]; exact (r.drop _).take _
def OP (X : Cx) (F : Fr) (Γ : List Kd) (e : Option Expr) (o : Option Int) : Prop := ∀ σ G H Fs, Env F G H σ Γ Fs → ∀ Q : Option Int → Hp → Prop, (∀ G' H', Grow G H G' H' → Q o H') → ∃ t, PO X e t ∧ t σ H Q
def wO (X : Cx) (e : Option Expr) : TO := fun σ H Q => ∃ t, PO X e t ∧ t σ H Q
theorem op_none : OP X F Γ none none := fun σ G H Fs E Q q => ⟨_, po_none, q _ _ (.refl E.gh)⟩
theorem op_some {j : Int} (h : EP X F Γ e (.int j)) : OP X F Γ (some e) (some j) := fun σ G H Fs E Q q => ⟨_, po_some pe_w, h σ G H Fs E _ fun v G1 H1 w1 r1 => by
  obtain rfl := r1.int_inv
  exact ⟨j, rfl, q _ _ w1⟩⟩
theorem np_slL {lo hi : Option Expr} {l u : Option Int} {p2 : Pos} (ha : LP X F Γ a ds) (hl : OP X F Γ lo l) (hu : OP X F Γ hi u) : NP X F Γ (.Subscript a (.Slice lo hi none p2) pos) (cutG ds l u) := fun σ G H Fs E Q q => by
  have Wo : ∀ (e : Option Expr), PO X e (wO X e) := fun e => ⟨fun pins s σ H Q I h => by obtain ⟨t, p, q⟩ := h; exact p.run pins s σ H Q I q⟩
  refine ⟨_, pe_slice sl_list pe_w (Wo lo) (Wo hi), ?_⟩
  refine ha σ G H Fs E _ fun p vs G1 H1 w1 h1 hc r1 => hl σ G1 H1 Fs (E.grow w1) _ fun G2 H2 w2 => hu σ G2 H2 Fs ((E.grow w1).grow w2) _ fun G3 H3 w3 => ?_
  refine ⟨p, vs, rfl, .inl (.inl (w3.h _ _ (w2.h _ _ h1))), fun z hz => ?_⟩
  have w := (w1.trans w2).trans w3
  exact q z _ G3 _ (w.trans (.raw w.s hz)) (w.h.none hz) (w.s.none hz) upd_same (Nat.le_trans (cutG_len _ _ _) hc) ((r1.mono (w2.g.trans w3.g)).cut l u)
theorem np_slS {lo hi : Option Expr} {l u : Option Int} {p2 : Pos} {ns : List Int} (C : Cok X M F N sc kk) (h : Sel N Γ x i (.arg (.scr ns))) (hv : Vis sc x) {px : Pos} (hl : OP X F Γ lo l) (hu : OP X F Γ hi u)
    (hd : (x == ("__debug__" : Str)) = false := by decide) (hcd : (x == ("__classdict__" : Str)) = false := by decide) : NP X F Γ (.Subscript (.Name x px) (.Slice lo hi none p2) pos) ((cutG ns l u).map .int) := fun σ G H Fs E Q q => by
  have Wo : ∀ (e : Option Expr), PO X e (wO X e) := fun e => ⟨fun pins s σ H Q I h => by obtain ⟨t, p, q⟩ := h; exact p.run pins s σ H Q I q⟩
  refine ⟨_, pe_slice sl_list pe_w (Wo lo) (Wo hi), ?_⟩
  obtain ⟨_, v, h1, p, rfl, hS, h63⟩ := E.sl i _ h.k
  refine w_name C h hv h1 ?_ hd hcd
  refine hl σ G H Fs E _ fun G2 H2 w2 => hu σ G2 H2 Fs (E.grow w2) _ fun G3 H3 w3 => ?_
  have w := w2.trans w3
  refine ⟨p, ns.map V.int, rfl, ?_, fun z hz => ?_⟩
  · rw [C.hK, ← C.hF]; exact Same.seq w.h (Same.seq E.bh hS)
  · have e1 : cutV (ns.map V.int) l u = (cutG ns l u).map V.int := (cutG_map _ _ _ _).symm
    rw [e1]
    refine q z _ G3 _ (w.trans (.raw w.s hz)) (w.h.none hz) (w.s.none hz) upd_same ?_ (.ints _)
    rw [List.length_map]
    exact Nat.le_trans (cutG_len _ _ _) (Nat.le_trans h63 (by decide))
theorem ep_slT {lo hi : Option Expr} {l u : Option Int} {p2 : Pos} (ha : EP X F Γ a (.tuple ds)) (hl : OP X F Γ lo l) (hu : OP X F Γ hi u) : EP X F Γ (.Subscript a (.Slice lo hi none p2) pos) (.tuple (cutG ds l u)) := fun σ G H Fs E Q q => by
  have Wo : ∀ (e : Option Expr), PO X e (wO X e) := fun e => ⟨fun pins s σ H Q I h => by obtain ⟨t, p, q⟩ := h; exact p.run pins s σ H Q I q⟩
  refine ⟨_, pe_slice sl_tupA pe_w (Wo lo) (Wo hi), ?_⟩
  refine ha σ G H Fs E _ fun x G1 H1 w1 r1 => hl σ G1 H1 Fs (E.grow w1) _ fun G2 H2 w2 => hu σ G2 H2 Fs ((E.grow w1).grow w2) _ fun G3 H3 w3 => ?_
  obtain ⟨p, vs, rfl, h1, hc, r1⟩ := r1.tup_inv
  have w := (w1.trans w2).trans w3
  have g3 := w3.g _ _ (w2.g _ _ h1)
  have r3 := r1.mono (w2.g.trans w3.g)
  refine ⟨p, vs, rfl, .inl (.inl (w3.s _ _ g3)), fun ⟨z1, z2⟩ => ?_, fun _ z hz => ?_⟩
  · have e1 : cutG ds l u = ds := by
      unfold cutG
      rw [← r1.len, z1, z2, List.drop_zero, Nat.sub_zero, r1.len, List.take_length]
    exact q _ G3 H3 w (e1.symm ▸ .tup g3 hc r3)
  · exact q _ _ _ (w.trans (.new w.s hz)) (.tup upd_same (Nat.le_trans (cutG_len _ _ _) hc) ((r3.cut l u).mono (.new (w.s.none hz))))

/-! ### lists joined, asked -/
theorem np_cat {da db : List PyData} (ha : LP X F Γ a da) (hb : LP X F Γ b db) (hl : da.length + db.length ≤ cap) : NP X F Γ (.BinOp a .Add b pos) (da ++ db) := fun σ G H Fs E Q q => by
  refine ⟨_, pe_op op_cat pe_w pe_w, ?_⟩
  refine ha σ G H Fs E _ fun p vs G1 H1 w1 h1 hc r1 => hb σ G1 H1 Fs (E.grow w1) _ fun p2 vs2 G2 H2 w2 h2 hc2 r2 => ?_
  refine ⟨p, p2, vs, vs2, rfl, rfl, w2.h _ _ h1, h2, by rw [r1.len, r2.len]; exact cap_le hl, fun z hz => ?_⟩
  have w := w1.trans w2
  exact q z _ G2 _ (w.trans (.raw w.s hz)) (w.h.none hz) (w.s.none hz) upd_same (by rw [List.length_append]; exact hl) ((r1.mono w2.g).append r2)
theorem ep_catT {da db : List PyData} (ha : EP X F Γ a (.tuple da)) (hb : EP X F Γ b (.tuple db)) (h0 : da ≠ []) (hl : da.length + db.length ≤ cap) : EP X F Γ (.BinOp a .Add b pos) (.tuple (da ++ db)) := fun σ G H Fs E Q q => by
  refine ⟨_, pe_op op_catT pe_w pe_w, ?_⟩
  refine ha σ G H Fs E _ fun x G1 H1 w1 r1 => hb σ G1 H1 Fs (E.grow w1) _ fun y G2 H2 w2 r2 => ?_
  obtain ⟨p, vs, rfl, h1, hc, r1⟩ := r1.tup_inv
  obtain ⟨p2, vs2, rfl, h2, hc2, r2⟩ := r2.tup_inv
  have w := w1.trans w2
  have r1' := r1.mono w2.g
  refine ⟨p, p2, vs, vs2, rfl, rfl, .inl (.inl (w2.s _ _ (w2.g _ _ h1))), .inl (.inl (w2.s _ _ h2)), fun z => h0 ?_, by rw [r1.len, r2.len]; exact cap_le hl, fun z => ?_, fun z v hv => ?_⟩
  · subst z
    cases r1 with
    | nil => rfl
  · subst z
    cases r2 with
    | nil =>
      refine q _ _ _ w ?_
      rw [List.append_nil]
      exact .tup (w2.g _ _ h1) hc r1'
  · exact q _ _ _ (w.trans (.new w.s hv)) (.tup upd_same (by rw [List.length_append]; exact hl) ((r1'.append r2).mono (.new (w.s.none hv))))
theorem do_inL {neg : Bool} {ds : List PyData} {d : PyData} {G H : Hp} {p : Addr} {vs : List V} {x : V} (h : H p = some (.lst vs)) (r : RpL G vs ds) (rx : Rp G x d) (hx : flatV x = true) (ha : vs.all flatV = true) {Q : VK}
    (q : Q (.bl (if neg then !inV x vs else inV x vs)) H) : rIn X.K neg x (.ref p) H Q := ⟨p, vs, rfl, .inl (.inl (.inl h)), hx, ha, q⟩
theorem inV_ints {x : Int} : ∀ {ns : List Int}, inV (.int x) (ns.map V.int) = decide (x ∈ ns)
  | [] => rfl
  | n :: r => by
    have ih := inV_ints (x := x) (ns := r)
    unfold inV at ih ⊢
    rw [List.map_cons, List.any_cons, ih]
    have e1 : eqV (.int n) (.int x) = decide (n = x) := by
      by_cases z : n = x <;> simp [eqV, z]
    rw [e1]
    by_cases h : n = x
    · subst h; simp
    · have : x ≠ n := fun z => h z.symm
      simp [h, this]
theorem flat_ints : ∀ {ns : List Int}, (ns.map V.int).all flatV = true
  | [] => rfl
  | n :: r => by rw [List.map_cons, List.all_cons, flat_ints]; rfl
theorem ep_inI {y : Int} {ns : List Int} (ha : EP X F Γ a (.int y)) (hb : LP X F Γ b (ns.map .int)) (hm : behindInMarks .In b = false := by rfl) : EP X F Γ (.Compare a [.In] [b] pos) (.bool (decide (y ∈ ns))) := fun σ G H Fs E Q q => by
  refine ⟨_, pe_cmpR op_in_seq pe_w pe_w hm, ?_⟩
  refine ha σ G H Fs E _ fun x G1 H1 w1 r1 => hb σ G1 H1 Fs (E.grow w1) _ fun p vs G2 H2 w2 h2 hc2 r2 => ?_
  obtain rfl := r1.int_inv
  obtain rfl := r2.ints_inv
  refine ⟨p, _, rfl, .inl (.inl (.inl h2)), rfl, flat_ints, ?_⟩
  rw [if_neg Bool.false_ne_true, inV_ints]
  exact q _ _ _ (w1.trans w2) .bl
theorem ep_notInI {y : Int} {ns : List Int} (ha : EP X F Γ a (.int y)) (hb : LP X F Γ b (ns.map .int)) (hm : behindInMarks .NotIn b = false := by rfl) : EP X F Γ (.Compare a [.NotIn] [b] pos) (.bool (!decide (y ∈ ns))) := fun σ G H Fs E Q q => by
  refine ⟨_, pe_cmpR op_notIn_seq pe_w pe_w hm, ?_⟩
  refine ha σ G H Fs E _ fun x G1 H1 w1 r1 => hb σ G1 H1 Fs (E.grow w1) _ fun p vs G2 H2 w2 h2 hc2 r2 => ?_
  obtain rfl := r1.int_inv
  obtain rfl := r2.ints_inv
  refine ⟨p, _, rfl, .inl (.inl (.inl h2)), rfl, flat_ints, ?_⟩
  rw [if_pos rfl, inV_ints]
  exact q _ _ _ (w1.trans w2) .bl
end

/-! ### the built-ins -/
/-- which built-in names are still the built-ins -/
def Blt (mg : Str → Option Value) (xs : List Str) : Prop := ∀ x ∈ xs, mg x = none
section
variable {X : Cx} {M : Md} {F : Fr} {N : List Str} {sc : Scope} {kk : Nat} {Γ : List Kd} {e a b c : Expr} {es : List Expr} {d da db : PyData} {ds : List PyData} {p pos : Pos} {x : Str} {i : Nat} {k : Kd}
theorem Cok.mgn (C : Cok X M F N sc kk) (h : M.mg x = none) : X.mg x = none := by rw [C.hM]; exact h
theorem gl_of (C : Cok X M F N sc kk) (h : sc.names.lookup x = some .globalImplicit) : Gl X x := by
  show X.env.scope.names.lookup x = _
  rw [C.hs]; exact h
theorem ep_len (C : Cok X M F N sc kk) (hm : M.mg "len" = none) (ha : LP X F Γ a ds) (hg : sc.names.lookup ("len" : Str) = some .globalImplicit := by decide +kernel) (pl : plainE a = true := by rfl) : EP X F Γ (.Call (.Name "len" p) [a] [] pos) (.int ds.length) := fun σ G H Fs E Q q => by
  refine ⟨_, pe_callB call_len_seq (gl_of C hg) (C.mgn hm) PySem.boot_len (pa_cons pe_w pa_nil (star_plain pl _ _)) (he := star_plain pl _ _), ?_⟩
  refine ha σ G H Fs E _ fun p vs G1 H1 w1 h1 hc r1 => ⟨p, vs, rfl, .inl (.inl (.inl h1)), ?_⟩
  rw [r1.len]
  exact q _ _ _ w1 .int
theorem ep_lenT (C : Cok X M F N sc kk) (hm : M.mg "len" = none) (ha : EP X F Γ a (.tuple ds)) (hg : sc.names.lookup ("len" : Str) = some .globalImplicit := by decide +kernel) (pl : plainE a = true := by rfl) : EP X F Γ (.Call (.Name "len" p) [a] [] pos) (.int ds.length) := fun σ G H Fs E Q q => by
  refine ⟨_, pe_callB call_len_seq (gl_of C hg) (C.mgn hm) PySem.boot_len (pa_cons pe_w pa_nil (star_plain pl _ _)) (he := star_plain pl _ _), ?_⟩
  refine ha σ G H Fs E _ fun x G1 H1 w1 r1 => ?_
  obtain ⟨p, vs, rfl, h1, hc, r1⟩ := r1.tup_inv
  refine ⟨p, vs, rfl, .inr (.inl (.inl (w1.s _ _ h1))), ?_⟩
  rw [r1.len]
  exact q _ _ _ w1 .int
theorem ep_lenS (C : Cok X M F N sc kk) (hm : M.mg "len" = none) {ns : List Int} {px : Pos} (h : Sel N Γ x i (.arg (.scr ns))) (hv : Vis sc x) (hg : sc.names.lookup ("len" : Str) = some .globalImplicit := by decide +kernel)
    (hd : (x == ("__debug__" : Str)) = false := by decide) (hcd : (x == ("__classdict__" : Str)) = false := by decide) : EP X F Γ (.Call (.Name "len" p) [.Name x px] [] pos) (.int ns.length) := fun σ G H Fs E Q q => by
  refine ⟨_, pe_callB call_len_seq (gl_of C hg) (C.mgn hm) PySem.boot_len (pa_cons pe_w pa_nil), ?_⟩
  obtain ⟨_, v, h1, p, rfl, hS, h63⟩ := E.sl i _ h.k
  refine w_name C h hv h1 ?_ hd hcd
  refine ⟨p, _, rfl, .inl (by rw [C.hK, ← C.hF]; exact Same.seq E.bh hS), ?_⟩
  rw [List.length_map]
  exact q _ _ _ (.refl E.gh) .int
theorem ep_ixS (C : Cok X M F N sc kk) {ns : List Int} {px : Pos} {j : Int} (h : Sel N Γ x i (.arg (.scr ns))) (hv : Vis sc x) (hb : EP X F Γ b (.int j)) (h0 : 0 ≤ j) (h1 : j < ns.length) (hs : PlainIx b := by exact fun _ _ => rfl)
    (hd : (x == ("__debug__" : Str)) = false := by decide) (hcd : (x == ("__classdict__" : Str)) = false := by decide) : EP X F Γ (.Subscript (.Name x px) b pos) (.int (ns.getD j.toNat 0)) := fun σ G H Fs E Q q => by
  refine ⟨_, pe_ix ix_w pe_w pe_w hs, ?_⟩
  obtain ⟨_, v, h2, p, rfl, hS, h63⟩ := E.sl i _ h.k
  refine w_name C h hv h2 ?_ hd hcd
  refine hb σ G H Fs E _ fun y G2 H2 w2 r2 => ?_
  obtain rfl := r2.int_inv
  refine ⟨_, ix_list, p, ns.map V.int, j, .int (ns.getD j.toNat 0), rfl, rfl, ?_, ?_, q _ _ _ w2 .int⟩
  · rw [C.hK, ← C.hF]; exact Same.seq w2.h (Same.seq E.bh hS)
  · have hj : j.toNat < ns.length := by omega
    unfold atI ixN
    rw [if_pos h0, List.length_map, if_pos h1]
    show (ns.map V.int)[j.toNat]? = _
    rw [List.getElem?_map, List.getElem?_eq_getElem hj, List.getD_eq_getElem?_getD, List.getElem?_eq_getElem hj]
    rfl
theorem np_list (C : Cok X M F N sc kk) (hm : M.mg "list" = none) (ha : LP X F Γ a ds) (hg : sc.names.lookup ("list" : Str) = some .globalImplicit := by decide +kernel) (pl : plainE a = true := by rfl) : NP X F Γ (.Call (.Name "list" p) [a] [] pos) ds := fun σ G H Fs E Q q => by
  refine ⟨_, pe_callTy call_list_of (gl_of C hg) (C.mgn hm) (by decide +kernel) (pa_cons pe_w pa_nil (star_plain pl _ _)) (he := star_plain pl _ _), ?_⟩
  refine ha σ G H Fs E _ fun p vs G1 H1 w1 h1 hc r1 => ⟨p, vs, rfl, .inl (.inl (.inl h1)), fun z hz => ?_⟩
  exact q z vs G1 _ (w1.trans (.raw w1.s hz)) (w1.h.none hz) (w1.s.none hz) upd_same hc r1
theorem np_listT (C : Cok X M F N sc kk) (hm : M.mg "list" = none) (ha : EP X F Γ a (.tuple ds)) (hg : sc.names.lookup ("list" : Str) = some .globalImplicit := by decide +kernel) (pl : plainE a = true := by rfl) : NP X F Γ (.Call (.Name "list" p) [a] [] pos) ds := fun σ G H Fs E Q q => by
  refine ⟨_, pe_callTy call_list_of (gl_of C hg) (C.mgn hm) (by decide +kernel) (pa_cons pe_w pa_nil (star_plain pl _ _)) (he := star_plain pl _ _), ?_⟩
  refine ha σ G H Fs E _ fun x G1 H1 w1 r1 => ?_
  obtain ⟨p, vs, rfl, h1, hc, r1⟩ := r1.tup_inv
  exact ⟨p, vs, rfl, .inr (.inl (.inl (w1.s _ _ h1))), fun z hz => q z vs G1 _ (w1.trans (.raw w1.s hz)) (w1.h.none hz) (w1.s.none hz) upd_same hc r1⟩
theorem ep_tuple (C : Cok X M F N sc kk) (hm : M.mg "tuple" = none) (ha : LP X F Γ a ds) (hg : sc.names.lookup ("tuple" : Str) = some .globalImplicit := by decide +kernel) (pl : plainE a = true := by rfl) : EP X F Γ (.Call (.Name "tuple" p) [a] [] pos) (.tuple ds) := fun σ G H Fs E Q q => by
  refine ⟨_, pe_callTy call_tuple_of (gl_of C hg) (C.mgn hm) (by decide +kernel) (pa_cons pe_w pa_nil (star_plain pl _ _)) (he := star_plain pl _ _), ?_⟩
  refine ha σ G H Fs E _ fun p vs G1 H1 w1 h1 hc r1 => ⟨p, vs, rfl, .inl ⟨.inl (.inl h1), fun z hz => ?_⟩⟩
  exact q _ _ _ (w1.trans (.new w1.s hz)) (.tup upd_same hc (r1.mono (.new (w1.s.none hz))))
theorem ep_sum (C : Cok X M F N sc kk) (hm : M.mg "sum" = none) {ns : List Int} (ha : LP X F Γ a (ns.map .int)) (hg : sc.names.lookup ("sum" : Str) = some .globalImplicit := by decide +kernel) (pl : plainE a = true := by rfl) : EP X F Γ (.Call (.Name "sum" p) [a] [] pos) (.int ns.sum) := fun σ G H Fs E Q q => by
  refine ⟨_, pe_callB (cr_sum C.calm) (gl_of C hg) (C.mgn hm) (by decide +kernel) (pa_cons pe_w pa_nil (star_plain pl _ _)) (he := star_plain pl _ _), ?_⟩
  refine ha σ G H Fs E _ fun p vs G1 H1 w1 h1 hc r1 => ?_
  obtain rfl := r1.ints_inv
  exact ⟨p, ns, rfl, .inl (.inl h1), q _ _ _ w1 .int⟩
theorem ep_intB (C : Cok X M F N sc kk) (hm : M.mg "int" = none) {t : Bool} (ha : EP X F Γ a (.bool t)) (hg : sc.names.lookup ("int" : Str) = some .globalImplicit := by decide +kernel) (pl : plainE a = true := by rfl) : EP X F Γ (.Call (.Name "int" p) [a] [] pos) (.int (if t then 1 else 0)) := fun σ G H Fs E Q q => by
  refine ⟨_, pe_callTy call_int1 (gl_of C hg) (C.mgn hm) (by decide +kernel) (pa_cons pe_w pa_nil (star_plain pl _ _)) (he := star_plain pl _ _), ?_⟩
  refine ha σ G H Fs E _ fun x G1 H1 w1 r1 => ?_
  obtain rfl := r1.bl_inv
  exact .inr ⟨t, rfl, q _ _ _ w1 .int⟩
theorem ep_max2 (C : Cok X M F N sc kk) (hm : M.mg "max" = none) {m n : Int} (ha : EP X F Γ a (.int m)) (hb : EP X F Γ b (.int n)) (hg : sc.names.lookup ("max" : Str) = some .globalImplicit := by decide +kernel) (pl : plainE a = true := by rfl) (pl2 : plainE b = true := by rfl) : EP X F Γ (.Call (.Name "max" p) [a, b] [] pos) (.int (if n > m then n else m)) := fun σ G H Fs E Q q => by
  refine ⟨_, pe_callB (call_max2 C.calm) (gl_of C hg) (C.mgn hm) (by decide +kernel) (pa_cons pe_w (pa_cons pe_w pa_nil (star_plain pl2 _ _)) (star_plain pl _ _)) (he := star_plain pl _ _) (hpl := back_plain (by rw [List.all_cons, pl2]; rfl)), ?_⟩
  refine ha σ G H Fs E _ fun x G1 H1 w1 r1 => hb σ G1 H1 Fs (E.grow w1) _ fun y G2 H2 w2 r2 => ?_
  obtain rfl := r1.int_inv
  obtain rfl := r2.int_inv
  exact ⟨m, n, rfl, q _ _ _ (w1.trans w2) .int⟩
end
end Rn

namespace Rn
open PySem PySem.Spec PyProof.Rows L2

/-! ## comprehensions -/
section
variable {X : Cx} {M : Md} {F : Fr} {N : List Str} {sc scope : Scope} {kk : Nat} {Γ : List Kd} {e a b c elt src : Expr} {es ifs : List Expr} {d da db : PyData} {ds : List PyData} {p pos px : Pos} {x : Str} {i : Nat} {k : Kd}
abbrev Xblk (X : Cx) (scope : Scope) (s : Shared) (H : Hp) (C : Addr) (cl : List (Str × Addr)) (fp : List Addr) : Cx := X.blk s H scope (compEnvC scope cl C X.env) fp
theorem Cok.blk (C : Cok X M F N sc kk) {s : Shared} {H : Hp} {C0 : Addr} {cl : List (Str × Addr)} {fp : List Addr} : Cok (Xblk X scope s H C0 cl fp) M F N (relS scope sc) kk :=
  ⟨C.hP, C.hw, C.hK, C.hF, C.hM, C.hb, C.hN, by show relS scope X.env.scope = _; rw [C.hs], C.nd, C.calm, C.room⟩
/-- tests of a comprehension -/
def TsP (X : Cx) (F : Fr) (Γ : List Kd) (ifs : List Expr) (b : Bool) : Prop := ∀ σ G H Fs, Env F G H σ Γ Fs → ∀ Q : Bool → Hp → Prop, (∀ G' H', Grow G H G' H' → Q b H') → ∃ t, PTs X ifs t ∧ t σ H Q
theorem tsp_nil : TsP X F Γ [] true := fun σ G H Fs E Q q => ⟨_, pts_nil, q _ _ (.refl E.gh)⟩
theorem tsp_one {t : Bool} (h : TP_ X F Γ c t) : TsP X F Γ [c] t := fun σ G H Fs E Q q => ⟨_, pts_one pt_w, h σ G H Fs E Q q⟩
/-- the parts of a comprehension -/
def CP (X : Cx) (F : Fr) (Γ : List Kd) (elt tg src : Expr) (ifs : List Expr) (scope : Scope) (ds : List PyData) : Prop := ∀ σ G H Fs, Env F G H σ Γ Fs → ∀ Q : VK,
  (∀ a vs G' H', Grow G H G' H' → H a = none → G' a = none → H' a = some (.lst vs) → ds.length ≤ cap → RpL G' vs ds → Q (.ref a) H') →
  ∃ wi g tt te own, PI X tg src wi ∧ BlkOk X.N X.env.scope scope own ∧ (∀ (s : Shared) (H : Hp) (C : Addr) (cl : List (Str × Addr)) (fp : List Addr), PG (Xblk X scope s H C cl fp) tg g) ∧
    (∀ (s : Shared) (H : Hp) (C : Addr) (cl : List (Str × Addr)) (fp : List Addr), PTs (Xblk X scope s H C cl fp) ifs tt) ∧ (∀ (s : Shared) (H : Hp) (C : Addr) (cl : List (Str × Addr)) (fp : List Addr), PE (Xblk X scope s H C cl fp) elt te) ∧
    tLc wi g tt te (own.map (·.2)) σ H Q
theorem np_lc (C : Cok X M F N sc kk) {tg : Expr} (h : CP X F Γ elt tg src ifs scope ds) (hs : ∀ x, foldedSetIterable src X.env x = pure x := by intro _; rfl) : NP X F Γ (.ListComp elt [⟨tg, src, ifs, 0⟩] scope pos) ds := fun σ G H Fs E Q q => by
  obtain ⟨wi, g, tt, te, own, h1, h2, h3, h4, h5, h6⟩ := h σ G H Fs E Q q
  exact ⟨_, pe_lc C.calm (by rw [C.hN]; exact C.nd) h1 h2 h3 h4 h5 hs, h6⟩

/-- the state of a comprehension that has made vs of zs so far: where it started (G, H), the new list at D -/
structure Lcs (G H : Hp) (D : Addr) (zs : List PyData) (G1 H1 : Hp) : Prop where
  w : Grow G H G1 H1
  d : G1 D = none
  l : ∃ vs, H1 D = some (.lst vs) ∧ RpL G1 vs zs
theorem Lcs.step {G H G1 H1 G2 H2 : Hp} {D : Addr} {zs : List PyData} (hD : H D = none) (L : Lcs G H D zs G1 H1) (w : Grow G1 H1 G2 H2) : Lcs G H D zs G2 H2 := by
  obtain ⟨vs, h1, r⟩ := L.l
  exact ⟨L.w.trans w, (w.o D (by rw [h1]; exact fun z => by cases z)).trans L.d, vs, w.h _ _ h1, r.mono w.g⟩
theorem Lcs.push {G H G1 H1 : Hp} {D : Addr} {zs : List PyData} {acc : List V} {y : V} {z : PyData} (hD : H D = none) (L : Lcs G H D zs G1 H1) (ha : H1 D = some (.lst acc)) (hy : Rp G1 y z) : Lcs G H D (zs ++ [z]) G1 (upd H1 D (.lst (acc ++ [y]))) := by
  obtain ⟨vs, h1, r⟩ := L.l
  have e : vs = acc := by rw [h1] at ha; exact HO.lst.inj (Option.some.inj ha)
  subst e
  refine ⟨⟨L.w.g, fun a u q => ?_, fun a u q => ?_, L.w.o⟩, L.d, _, upd_same, r.append (.cons hy .nil)⟩
  · rw [upd_ne (ne_of_none q L.d)]; exact L.w.s _ _ q
  · rw [upd_ne (ne_of_none q hD)]; exact L.w.h _ _ q
def tSrc (X : Cx) (scope : Scope) (ifs : List Expr) : TT := fun σ H Q => ∀ (s : Shared) (H0 : Hp) (C : Addr) (cl : List (Str × Addr)) (fp : List Addr), ∃ t, PTs (Xblk X scope s H0 C cl fp) ifs t ∧ t σ H Q
def eSrc (X : Cx) (scope : Scope) (e : Expr) : TE := fun σ H Q => ∀ (s : Shared) (H0 : Hp) (C : Addr) (cl : List (Str × Addr)) (fp : List Addr), wE (Xblk X scope s H0 C cl fp) e σ H Q

theorem set_set_some {σ : L2.St} {i : Nat} {v : V} : (wipe σ [i]).set i (some v) = σ.set i (some v) := by
  show ((σ.set i none).set i (some v)) = _
  rw [List.set_set]
theorem wipe_set {σ : L2.St} {i : Nat} {v : V} : wipe (σ.set i (some v)) [i] = wipe σ [i] := by
  show ((σ.set i (some v)).set i none) = σ.set i none
  rw [List.set_set]

/-- one turn of a comprehension with one name -/
theorem lc_turn {α : Type} (fE : α → PyData) (pT : α → Bool) {y : α} {v : V} {dv : PyData} (hx : Sel N Γ x i k) (hd : k.dry = true) {σ : L2.St} {G H G1 H1 Gs Hs : Hp} {D : Addr} {Fs : Nat → Addr → Prop} {zs : List PyData} (E : Env F Gs Hs σ Γ Fs) (hD : Hs D = none) (L : Lcs Gs Hs D zs G1 H1)
    (rv : Rp G1 v dv) (hz : zs.length < cap)
    (hT : ∀ s H0 C0 cl fp, TsP (Xblk X scope s H0 C0 cl fp) F (Γ.set i (.val dv)) ifs (pT y)) (hE : pT y = true → ∀ s H0 C0 cl fp, EP (Xblk X scope s H0 C0 cl fp) F (Γ.set i (.val dv)) elt (fE y))
    {Nx : Hp → Prop} (q1 : pT y = true → ∀ G2 H2, Lcs Gs Hs D (zs ++ [fE y]) G2 H2 → Nx H2) (q0 : pT y = false → ∀ G2 H2, Lcs Gs Hs D zs G2 H2 → Nx H2) :
    gName i v (wipe σ [i]) H1 fun σ2 H2 => wipe σ2 [i] = wipe σ [i] ∧ tSrc X scope ifs σ2 H2 fun b H3 => if b = true then eSrc X scope elt σ2 H3 fun y H4 => ∃ acc, H4 D = some (.lst acc) ∧ acc.length < sizeLine ∧ Nx (upd H4 D (.lst (acc ++ [y]))) else Nx H3 := by
  show wipe ((wipe σ [i]).set i (some v)) [i] = wipe σ [i] ∧ _
  rw [set_set_some]
  refine ⟨wipe_set, fun s H0 C0 cl fp => ?_⟩
  have E1 : Env F G1 H1 (σ.set i (some v)) (Γ.set i (.val dv)) Fs := (E.grow L.w).putD hx.k hd (kat_val rv)
  refine hT s H0 C0 cl fp _ G1 H1 Fs E1 _ fun G2 H2 w2 => ?_
  have L2 := L.step hD w2
  cases hp : pT y with
  | false => exact iteF (q0 hp G2 H2 L2)
  | true =>
    refine iteT fun s H0 C0 cl fp => ?_
    refine hE hp s H0 C0 cl fp _ G2 H2 Fs (E1.grow w2) _ fun v3 G3 H3 w3 r3 => ?_
    have L3 := L2.step hD w3
    obtain ⟨vs, h3, rs⟩ := L3.l
    refine ⟨vs, h3, ?_, q1 hp G3 _ (L3.push hD h3 r3)⟩
    rw [rs.len]
    exact cap_lt hz
theorem Lcs.start {G H : Hp} (e : Ex G H) {D : Addr} (hD : H D = none) : Lcs G H D [] G (upd H D (.lst [])) := ⟨.raw e hD, e.none hD, [], upd_same, .nil⟩
theorem take_filter_succ {α : Type} {p : α → Bool} {xs : List α} {i : Nat} {y : α} (h : xs[i]? = some y) : (xs.take (i + 1)).filter p = (xs.take i).filter p ++ (if p y = true then [y] else []) := by
  rw [List.take_add_one, h, List.filter_append]
  congr 1
  show (List.filter p [y]) = _
  by_cases z : p y = true
  · rw [if_pos z, List.filter_cons_of_pos z, List.filter_nil]
  · rw [if_neg z, List.filter_cons_of_neg z, List.filter_nil]

/-- [elt for x in (a list) if ..] -/
theorem cp_list {α : Type} {f fE : α → PyData} {pT : α → Bool} {xs : List α} (C : Cok X M F N sc kk) (hx : Sel N Γ x i k) (hd : k.dry = true) (hs : LP X F Γ src (xs.map f)) (ok : blkC N sc scope [(x, i)] = true) (hl : Loc (relS scope sc) x) (hf : (relS scope sc).names.lookup x = some .local ∨ (scope.names.lookup x == some .cell) = true)
    (hT : ∀ y ∈ xs, ∀ s H0 C0 cl fp, Cok (Xblk X scope s H0 C0 cl fp) M F N (relS scope sc) kk → TsP (Xblk X scope s H0 C0 cl fp) F (Γ.set i (.val (f y))) ifs (pT y)) (hE : ∀ y ∈ xs, pT y = true → ∀ s H0 C0 cl fp, Cok (Xblk X scope s H0 C0 cl fp) M F N (relS scope sc) kk → EP (Xblk X scope s H0 C0 cl fp) F (Γ.set i (.val (f y))) elt (fE y)) :
    CP X F Γ elt (.Name x px) src ifs scope ((xs.filter pT).map fE) := fun σ G H Fs E Q q => by
  refine ⟨_, gName i, tSrc X scope ifs, eSrc X scope elt, [(x, i)], pi_list pe_w, by rw [C.hN, C.hs]; exact blkOk_by ok, fun s H C0 cl fp => ?_, fun s H C0 cl fp => ⟨fun pins s1 σ H5 Q I h => ?_⟩, fun s H C0 cl fp => ⟨fun pins s1 σ H5 Q I h => ?_⟩, ?_⟩
  · have C' := C.blk (scope := scope) (s := s) (H := H) (C0 := C0) (cl := cl) (fp := fp)
    refine pg_name (by rw [C'.hN]; exact C'.nd) (by rw [C'.hN]; exact hx.n) (by rw [C'.hs]; exact hl) ?_
    rcases hf with z | z
    · exact .inr (by rw [C'.hs]; exact z)
    · exact .inl z
  · obtain ⟨t, p1, p2⟩ := h s H C0 cl fp
    exact p1.run pins s1 σ _ Q I p2
  · exact pe_w.run pins s1 σ _ Q I (h s H C0 cl fp)
  · refine hs σ G H Fs E _ fun a vs G1 H1 w1 h1 hc r1 => ?_
    refine ⟨a, rfl, ⟨vs, .inl (.inl (by rw [h1]))⟩, fun D hD => ?_⟩
    have E1 := E.grow w1
    refine lc_list (K := X.K) (a := a) (xs := vs) (fun j H' => ∃ G', Lcs G1 H1 D (((xs.take j).filter pT).map fE) G' H') ⟨G1, Lcs.start w1.s hD⟩ (fun j H' _ ⟨G', L⟩ => .inl (.inl (L.w.h _ _ h1))) (fun j v H' hv ⟨G', L⟩ => ?_) fun H' ⟨G', L⟩ => ?_
    · obtain ⟨dv, hdv, rv⟩ := r1.get' hv
      rw [List.getElem?_map] at hdv
      cases hy : xs[j]? with
      | none => rw [hy] at hdv; cases hdv
      | some y =>
        rw [hy] at hdv
        obtain rfl := Option.some.inj hdv
        have hm : y ∈ xs := List.mem_of_getElem? hy
        have hlt : j < xs.length := (List.getElem?_eq_some_iff.mp hy).1
        refine lc_turn (G := G) (H := H) fE pT hx hd E1 hD L (rv.mono L.w.g) ?_ (fun s H0 C0 cl fp => hT y hm s H0 C0 cl fp C.blk) (fun z s H0 C0 cl fp => hE y hm z s H0 C0 cl fp C.blk) (fun z G2 H2 L2 => ⟨G2, ?_⟩) (fun z G2 H2 L2 => ⟨G2, ?_⟩)
        · rw [List.length_map]
          have := List.length_filter_le pT (xs.take j)
          rw [List.length_take] at this
          rw [List.length_map] at hc
          omega
        · rw [take_filter_succ hy, if_pos z, List.map_append]; exact L2
        · rw [take_filter_succ hy, if_neg (by rw [z]; exact Bool.false_ne_true), List.append_nil]; exact L2
    · have el : vs.length = xs.length := by rw [r1.len, List.length_map]
      rw [el, List.take_length] at L
      obtain ⟨ws, h2, r2⟩ := L.l
      refine q D ws G' H' (w1.trans L.w) (w1.h.none hD) L.d h2 ?_ r2
      rw [List.length_map]
      have := List.length_filter_le pT xs
      rw [List.length_map] at hc
      omega
/-- [elt for x in range(n) if ..] -/
theorem cp_range {n : Int} {fE : Nat → PyData} {pT : Nat → Bool} {pr : Pos} (C : Cok X M F N sc kk) (hm : M.mg "range" = none) (hx : Sel N Γ x i k) (hd : k.dry = true) (hs : EP X F Γ e (.int n)) (hn : n ≤ 100000) (ok : blkC N sc scope [(x, i)] = true) (hl : Loc (relS scope sc) x) (hf : (relS scope sc).names.lookup x = some .local ∨ (scope.names.lookup x == some .cell) = true)
    (hg : sc.names.lookup ("range" : Str) = some .globalImplicit) (hpl : plainE e = true)
    (hT : ∀ j, j < n.toNat → ∀ s H0 C0 cl fp, Cok (Xblk X scope s H0 C0 cl fp) M F N (relS scope sc) kk → TsP (Xblk X scope s H0 C0 cl fp) F (Γ.set i (.val (.int (j : Int)))) ifs (pT j)) (hE : ∀ j, j < n.toNat → pT j = true → ∀ s H0 C0 cl fp, Cok (Xblk X scope s H0 C0 cl fp) M F N (relS scope sc) kk → EP (Xblk X scope s H0 C0 cl fp) F (Γ.set i (.val (.int (j : Int)))) elt (fE j)) (hn0 : -100000 ≤ n := by omega) :
    CP X F Γ elt (.Name x px) (.Call (.Name "range" pr) [e] [] pos) ifs scope (((List.range n.toNat).filter pT).map fE) := fun σ G H Fs E Q q => by
  refine ⟨_, gName i, tSrc X scope ifs, eSrc X scope elt, [(x, i)], pi_range1 (gl_of C hg) (C.mgn hm) (pa_cons pe_w pa_nil (star_plain hpl _ _)) (by rw [star_plain hpl]; rfl), by rw [C.hN, C.hs]; exact blkOk_by ok, fun s H C0 cl fp => ?_, fun s H C0 cl fp => ⟨fun pins s1 σ H5 Q I h => ?_⟩, fun s H C0 cl fp => ⟨fun pins s1 σ H5 Q I h => ?_⟩, ?_⟩
  · have C' := C.blk (scope := scope) (s := s) (H := H) (C0 := C0) (cl := cl) (fp := fp)
    refine pg_name (by rw [C'.hN]; exact C'.nd) (by rw [C'.hN]; exact hx.n) (by rw [C'.hs]; exact hl) ?_
    rcases hf with z | z
    · exact .inr (by rw [C'.hs]; exact z)
    · exact .inl z
  · obtain ⟨t, p1, p2⟩ := h s H C0 cl fp
    exact p1.run pins s1 σ _ Q I p2
  · exact pe_w.run pins s1 σ _ Q I (h s H C0 cl fp)
  · refine hs σ G H Fs E _ fun v G1 H1 w1 r1 => ?_
    obtain rfl := r1.int_inv
    refine ⟨n, rfl, by omega, by omega, fun D hD => ?_⟩
    have E1 := E.grow w1
    refine lc_range (lo := 0) (n := n.toNat) (fun j H' => ∃ G', Lcs G1 H1 D ((((List.range n.toNat).take j).filter pT).map fE) G' H') ⟨G1, Lcs.start w1.s hD⟩ (fun j H' hj ⟨G', L⟩ => ?_) fun H' ⟨G', L⟩ => ?_
    · have hy : (List.range n.toNat)[j]? = some j := by rw [List.getElem?_range hj]
      refine lc_turn (G := G) (H := H) (dv := .int (j : Int)) fE pT hx hd E1 hD L ?_ ?_ (fun s H0 C0 cl fp => hT j hj s H0 C0 cl fp C.blk) (fun z s H0 C0 cl fp => hE j hj z s H0 C0 cl fp C.blk) (fun z G2 H2 L2 => ⟨G2, ?_⟩) (fun z G2 H2 L2 => ⟨G2, ?_⟩)
      · rw [Int.zero_add]; exact .int
      · rw [List.length_map]
        have := List.length_filter_le pT ((List.range n.toNat).take j)
        rw [List.length_take, List.length_range] at this
        unfold cap
        omega
      · rw [take_filter_succ hy, if_pos z, List.map_append]; exact L2
      · rw [take_filter_succ hy, if_neg (by rw [z]; exact Bool.false_ne_true), List.append_nil]; exact L2
    · rw [List.take_of_length_le (by rw [List.length_range]; exact Nat.le_refl _)] at L
      obtain ⟨ws, h2, r2⟩ := L.l
      refine q D ws G' H' (w1.trans L.w) (w1.h.none hD) L.d h2 ?_ r2
      rw [List.length_map]
      have := List.length_filter_le pT (List.range n.toNat)
      rw [List.length_range] at this
      unfold cap
      omega
theorem filter_tt {α : Type} (xs : List α) : xs.filter (fun _ => true) = xs := by
  induction xs with
  | nil => rfl
  | cons x r ih => rw [List.filter_cons_of_pos rfl, ih]
theorem cp_list0 {α : Type} {f fE : α → PyData} {xs : List α} (C : Cok X M F N sc kk) (hx : Sel N Γ x i k) (hd : k.dry = true) (hs : LP X F Γ src (xs.map f)) (ok : blkC N sc scope [(x, i)] = true) (hl : Loc (relS scope sc) x) (hf : (relS scope sc).names.lookup x = some .local ∨ (scope.names.lookup x == some .cell) = true)
    (hE : ∀ y ∈ xs, ∀ s H0 C0 cl fp, Cok (Xblk X scope s H0 C0 cl fp) M F N (relS scope sc) kk → EP (Xblk X scope s H0 C0 cl fp) F (Γ.set i (.val (f y))) elt (fE y)) :
    CP X F Γ elt (.Name x px) src [] scope (xs.map fE) := by
  have h := cp_list (px := px) (pT := fun _ => true) (ifs := []) C hx hd hs ok hl hf (fun _ _ _ _ _ _ _ _ => tsp_nil) fun y hy _ => hE y hy
  rw [filter_tt] at h
  exact h
theorem cp_listI0 {α : Type} {f : α → PyData} {g : α → Int} {xs : List α} (C : Cok X M F N sc kk) (hx : Sel N Γ x i k) (hd : k.dry = true) (hs : LP X F Γ src (xs.map f)) (ok : blkC N sc scope [(x, i)] = true) (hl : Loc (relS scope sc) x) (hf : (relS scope sc).names.lookup x = some .local ∨ (scope.names.lookup x == some .cell) = true)
    (hE : ∀ y ∈ xs, ∀ s H0 C0 cl fp, Cok (Xblk X scope s H0 C0 cl fp) M F N (relS scope sc) kk → EP (Xblk X scope s H0 C0 cl fp) F (Γ.set i (.val (f y))) elt (.int (g y))) :
    CP X F Γ elt (.Name x px) src [] scope ((xs.map g).map .int) := by
  have h := cp_list0 (px := px) (fE := fun y => .int (g y)) C hx hd hs ok hl hf hE
  rw [List.map_map]
  exact h
theorem cp_listI {α : Type} {f : α → PyData} {g : α → Int} {pT : α → Bool} {xs : List α} (C : Cok X M F N sc kk) (hx : Sel N Γ x i k) (hd : k.dry = true) (hs : LP X F Γ src (xs.map f)) (ok : blkC N sc scope [(x, i)] = true) (hl : Loc (relS scope sc) x) (hf : (relS scope sc).names.lookup x = some .local ∨ (scope.names.lookup x == some .cell) = true)
    (hT : ∀ y ∈ xs, ∀ s H0 C0 cl fp, Cok (Xblk X scope s H0 C0 cl fp) M F N (relS scope sc) kk → TsP (Xblk X scope s H0 C0 cl fp) F (Γ.set i (.val (f y))) ifs (pT y))
    (hE : ∀ y ∈ xs, pT y = true → ∀ s H0 C0 cl fp, Cok (Xblk X scope s H0 C0 cl fp) M F N (relS scope sc) kk → EP (Xblk X scope s H0 C0 cl fp) F (Γ.set i (.val (f y))) elt (.int (g y))) :
    CP X F Γ elt (.Name x px) src ifs scope (((xs.filter pT).map g).map .int) := by
  have h := cp_list (px := px) (fE := fun y => .int (g y)) C hx hd hs ok hl hf hT hE
  rw [List.map_map]
  exact h
theorem cp_range0 {n : Int} {fE : Nat → PyData} {pr : Pos} (C : Cok X M F N sc kk) (hm : M.mg "range" = none) (hx : Sel N Γ x i k) (hd : k.dry = true) (hs : EP X F Γ e (.int n)) (hn : n ≤ 100000) (ok : blkC N sc scope [(x, i)] = true) (hl : Loc (relS scope sc) x) (hf : (relS scope sc).names.lookup x = some .local ∨ (scope.names.lookup x == some .cell) = true)
    (hg : sc.names.lookup ("range" : Str) = some .globalImplicit) (hpl : plainE e = true)
    (hE : ∀ j, j < n.toNat → ∀ s H0 C0 cl fp, Cok (Xblk X scope s H0 C0 cl fp) M F N (relS scope sc) kk → EP (Xblk X scope s H0 C0 cl fp) F (Γ.set i (.val (.int (j : Int)))) elt (fE j)) (hn0 : -100000 ≤ n := by omega) :
    CP X F Γ elt (.Name x px) (.Call (.Name "range" pr) [e] [] pos) [] scope ((List.range n.toNat).map fE) := by
  have h := cp_range (px := px) (pr := pr) (pos := pos) (pT := fun _ => true) (ifs := []) C hm hx hd hs hn ok hl hf hg hpl (fun _ _ _ _ _ _ _ _ => tsp_nil) (fun y hy _ => hE y hy) hn0
  rw [filter_tt] at h
  exact h
theorem cp_rangeI0 {n : Int} {g : Nat → Int} {pr : Pos} (C : Cok X M F N sc kk) (hm : M.mg "range" = none) (hx : Sel N Γ x i k) (hd : k.dry = true) (hs : EP X F Γ e (.int n)) (hn : n ≤ 100000) (ok : blkC N sc scope [(x, i)] = true) (hl : Loc (relS scope sc) x) (hf : (relS scope sc).names.lookup x = some .local ∨ (scope.names.lookup x == some .cell) = true)
    (hg : sc.names.lookup ("range" : Str) = some .globalImplicit) (hpl : plainE e = true)
    (hE : ∀ j, j < n.toNat → ∀ s H0 C0 cl fp, Cok (Xblk X scope s H0 C0 cl fp) M F N (relS scope sc) kk → EP (Xblk X scope s H0 C0 cl fp) F (Γ.set i (.val (.int (j : Int)))) elt (.int (g j))) (hn0 : -100000 ≤ n := by omega) :
    CP X F Γ elt (.Name x px) (.Call (.Name "range" pr) [e] [] pos) [] scope (((List.range n.toNat).map g).map .int) := by
  have h := cp_range0 (px := px) (pr := pr) (pos := pos) (fE := fun y => .int (g y)) C hm hx hd hs hn ok hl hf hg hpl hE hn0
  rw [List.map_map]
  exact h
theorem cp_rangeI {n : Int} {g : Nat → Int} {pT : Nat → Bool} {pr : Pos} (C : Cok X M F N sc kk) (hm : M.mg "range" = none) (hx : Sel N Γ x i k) (hd : k.dry = true) (hs : EP X F Γ e (.int n)) (hn : n ≤ 100000) (ok : blkC N sc scope [(x, i)] = true) (hl : Loc (relS scope sc) x) (hf : (relS scope sc).names.lookup x = some .local ∨ (scope.names.lookup x == some .cell) = true)
    (hg : sc.names.lookup ("range" : Str) = some .globalImplicit) (hpl : plainE e = true)
    (hT : ∀ j, j < n.toNat → ∀ s H0 C0 cl fp, Cok (Xblk X scope s H0 C0 cl fp) M F N (relS scope sc) kk → TsP (Xblk X scope s H0 C0 cl fp) F (Γ.set i (.val (.int (j : Int)))) ifs (pT j))
    (hE : ∀ j, j < n.toNat → pT j = true → ∀ s H0 C0 cl fp, Cok (Xblk X scope s H0 C0 cl fp) M F N (relS scope sc) kk → EP (Xblk X scope s H0 C0 cl fp) F (Γ.set i (.val (.int (j : Int)))) elt (.int (g j))) (hn0 : -100000 ≤ n := by omega) :
    CP X F Γ elt (.Name x px) (.Call (.Name "range" pr) [e] [] pos) ifs scope ((((List.range n.toNat).filter pT).map g).map .int) := by
  have h := cp_range (px := px) (pr := pr) (pos := pos) (fE := fun y => .int (g y)) C hm hx hd hs hn ok hl hf hg hpl hT hE hn0
  rw [List.map_map]
  exact h
end
end Rn

namespace Rn
open PySem PySem.Spec PyProof.Rows L2

/-! ## promises of pure defs -/
inductive ArL (K : PySem.W.Frag) (G H : Hp) : List V → List Ar → Prop
  | nil : ArL K G H [] []
  | cons {v : V} {a : Ar} {vs : List V} {as : List Ar} : ArAt K G H v a → ArL K G H vs as → ArL K G H (v :: vs) (a :: as)
theorem ArL.len {K : PySem.W.Frag} {G H : Hp} : ∀ {vs : List V} {as : List Ar}, ArL K G H vs as → vs.length = as.length
  | _, _, .nil => rfl
  | _, _, .cons _ r => by rw [List.length_cons, List.length_cons, r.len]
theorem ArL.get {K : PySem.W.Frag} {G H : Hp} : ∀ {vs : List V} {as : List Ar} {i : Nat} {a : Ar}, ArL K G H vs as → as[i]? = some a → ∃ v, vs[i]? = some v ∧ ArAt K G H v a
  | _, _, _, _, .nil, h => by simp at h
  | _, _, 0, _, .cons r _, h => by simp at h; subst h; exact ⟨_, rfl, r⟩
  | _, _, i + 1, _, .cons _ t, h => by
    obtain ⟨v, h1, h2⟩ := ArL.get (i := i) t (by simpa using h)
    exact ⟨v, by simpa using h1, h2⟩
def spP (K : PySem.W.Frag) (R : List Ar → PyData → Prop) : Sp := fun vs H Q _ => ∃ G ars d, Ex G H ∧ R ars d ∧ ArL K G H vs ars ∧ ∀ v G' H', Grow G H G' H' → Rp G' v d → Q v H'
structure FnA (M : Md) (k : Nat) (x : Str) (R : List Ar → PyData → Prop) : Prop where
  ex : ∃ (f : Addr) (fd : FuncData) (ps : List Str), FnOk M.P M.w M.K M.mg M.base (L2.CX M.P M.w) k f fd ps (spP M.K R) ∧ M.mg x = some (.ref f) ∧ PySem.W.keepIn M.K (.ref f) = true ∧ Binds M.K fd ps []

section
variable {X : Cx} {M : Md} {F : Fr} {N : List Str} {sc scope : Scope} {kk : Nat} {Γ : List Kd} {e a b c elt src : Expr} {es ifs : List Expr} {d da db : PyData} {ds : List PyData} {p pos px : Pos} {x : Str} {i : Nat} {k : Kd}
def ArP (X : Cx) (F : Fr) (Γ : List Kd) (es : List Expr) (ars : List Ar) : Prop := ∀ σ G H Fs, Env F G H σ Γ Fs → ∀ Q : List V → Hp → Prop, (∀ vs G' H', Grow G H G' H' → ArL F.K G' H' vs ars → Q vs H') → wA X es σ H Q
theorem arp_nil : ArP X F Γ [] [] := fun σ G H Fs E Q q => ⟨_, pa_nil, q _ _ _ (.refl E.gh) .nil⟩
theorem arp_one {ar : Ar} {ars : List Ar} (h : ∀ σ G H Fs, Env F G H σ Γ Fs → ∀ Q : VK, (∀ v G' H', Grow G H G' H' → ArAt F.K G' H' v ar → Q v H') → wE X e σ H Q) (hr : ArP X F Γ es ars) (hs : plainE e = true) : ArP X F Γ (e :: es) (ar :: ars) := fun σ G H Fs E Q q => by
  refine ⟨_, pa_cons pe_w pa_w (star_plain hs _ _), h σ G H Fs E _ fun x G1 H1 w1 r1 => hr σ G1 H1 Fs (E.grow w1) _ fun vs G2 H2 w2 r2 => q _ _ _ (w1.trans w2) (.cons (r1.mono w2.g w2.h) r2)⟩
theorem arp_dat {ars : List Ar} (h : EP X F Γ e d) (hr : ArP X F Γ es ars) (hs : plainE e = true := by rfl) : ArP X F Γ (e :: es) (.dat d :: ars) :=
  arp_one (fun σ G H Fs E Q q => h σ G H Fs E Q fun v G' H' w r => q v G' H' w r) hr hs
theorem arp_lst {ars : List Ar} (h : LP X F Γ e ds) (hr : ArP X F Γ es ars) (hs : plainE e = true := by rfl) : ArP X F Γ (e :: es) (.lst ds :: ars) :=
  arp_one (fun σ G H Fs E Q q => h σ G H Fs E Q fun a vs G' H' w h1 h2 r => q _ G' H' w ⟨a, vs, rfl, h1, h2, r⟩) hr hs
theorem arp_arg {ars : List Ar} {ar : Ar} (C : Cok X M F N sc kk) (h : Sel N Γ x i (.arg ar)) (hv : Vis sc x) (hr : ArP X F Γ es ars) (hd : (x == ("__debug__" : Str)) = false := by decide) (hcd : (x == ("__classdict__" : Str)) = false := by decide) : ArP X F Γ (.Name x px :: es) (ar :: ars) :=
  arp_one (fun σ G H Fs E Q q => by
    obtain ⟨_, v, h1, h2⟩ := E.sl i _ h.k
    exact w_name C h hv h1 (q v G H (.refl E.gh) (h2.mono (.refl _) E.bh)) hd hcd) hr rfl
theorem arp_res {ars : List Ar} {v : V} {r0 : Rs} {r : Ro} (C : Cok X M F N sc kk) (h : Sel N Γ x i (.res v r0)) (hv : Vis sc x) (hi : ∀ G H P, r0.at_ G H v P → r.at_ G H v) (hr : ArP X F Γ es ars) (hd : (x == ("__debug__" : Str)) = false := by decide) (hcd : (x == ("__classdict__" : Str)) = false := by decide) : ArP X F Γ (.Name x px :: es) (.obj r :: ars) :=
  arp_one (fun σ G H Fs E Q q => by
    obtain ⟨h1, h2⟩ := E.sl i _ h.k
    exact w_name C h hv h1 (q v G H (.refl E.gh) (hi _ _ _ h2)) hd hcd) hr rfl
theorem FnA.at_ {R : List Ar → PyData → Prop} {k : Nat} (C : Cok X M F N sc kk) (h : FnA M k x R) : ∃ (f : Addr) (fd : FuncData) (ps : List Str), FnOk X.prog X.w X.K X.mg X.base (L2.CX X.prog X.w) k f fd ps (spP F.K R) ∧ X.mg x = some (.ref f) ∧ PySem.W.keepIn X.K (.ref f) = true ∧ Binds X.K fd ps [] := by
  rw [C.hP, C.hw, C.hK, C.hF, C.hM, C.hb]
  exact h.ex
theorem ep_call {R : List Ar → PyData → Prop} {k : Nat} {ars : List Ar} (C : Cok X M F N sc kk) (h : FnA M k x R) (hk : k ≤ kk) (hg : sc.names.lookup x = some .globalImplicit) (ha : ArP X F Γ (e :: es) ars) (hr : R ars d)
    (pl : plainE e = true := by rfl) (pls : es.all plainE = true := by rfl) (hd : (x == ("__debug__" : Str)) = false := by decide) : EP X F Γ (.Call (.Name x p) (e :: es) [] pos) d := fun σ G H Fs E Q q => by
  obtain ⟨f, fd, ps, h1, h2, h3, h4⟩ := h.at_ C
  refine ⟨_, pe_call h1 (C.room.mono hk) (gl_of C hg) h2 h3 h4 .nil passL pa_w hd (star_plain pl _ _) (back_plain pls), ?_⟩
  refine ha σ G H Fs E _ fun vs G1 H1 w1 r1 => ?_
  rw [List.append_nil]
  exact ⟨G1, ars, d, w1.s, hr, r1, fun v G2 H2 w2 r2 => q v G2 H2 (w1.trans w2) r2⟩
end

/-! ## a def's body -/
structure Bok (X : Cx) : Prop where
  fn : ∀ x, X.fn x = true
  pass : PassesOwn (model X.prog X.w) X.A X.env X.xe
  stk : X.stack = X.env :: X.outer
  fr : X.env.frame = some X.env.locals
theorem Env.done {F : Fr} {G H : Hp} {σ : L2.St} {Γ : List Kd} {Fs : Nat → Addr → Prop} (E : Env F G H σ Γ Fs) : Grow F.G0 F.B G H := ⟨E.g0, E.gh, E.bh, E.go⟩
/-- what is wanted of a pure def's answer -/
def pRt (d : PyData) (F : Fr) : VK := fun v H => ∃ G, Grow F.G0 F.B G H ∧ Rp G v d
def pEnds (F : Fr) (d : PyData) : Ends := { nx := fun _ H => d = .none ∧ ∃ G, Grow F.G0 F.B G H, rt := pRt d F }
theorem join_start {N : List Str} {vs : List V} {i : Nat} : (L2.start N vs)[i]?.join = vs[i]? := by
  unfold L2.start
  by_cases h : i < vs.length
  · rw [List.getElem?_append_left (by simpa using h), List.getElem?_map, List.getElem?_eq_getElem h]; rfl
  · rw [List.getElem?_append_right (by simpa using h), List.getElem?_replicate, List.getElem?_eq_none (by omega)]
    split <;> rfl
theorem env_start {M : Md} {G H : Hp} {N : List Str} {vs : List V} {ars : List Ar} {n : Nat} (e : Ex G H) (h : ArL M.K G H vs ars) (hn : N.length = ars.length + n) : Env ⟨M.K, H, G⟩ G H (L2.start N vs) (ars.map Ar.kd ++ List.replicate n .un) (fun _ _ => False) := by
  refine ⟨e, .refl H, .refl G, fun _ _ => rfl, ?_, fun i k hk => ?_, fun _ _ _ z => z.elim, fun _ _ z => z.elim⟩
  · unfold L2.start
    rw [List.length_append, List.length_map, List.length_replicate, List.length_append, List.length_map, List.length_replicate, h.len]
    omega
  · rw [join_start]
    by_cases hi : i < ars.length
    · rw [List.getElem?_append_left (by simpa using hi), List.getElem?_map, List.getElem?_eq_getElem hi] at hk
      obtain rfl := Option.some.inj hk
      obtain ⟨v, h1, h2⟩ := h.get (List.getElem?_eq_getElem hi)
      rw [h1]
      cases q : ars[i] with
      | dat d => rw [q] at h2; exact ⟨fun _ z => z, v, rfl, h2⟩
      | lst ds => rw [q] at h2; exact ⟨fun _ z => z, v, rfl, h2⟩
      | scr ns => rw [q] at h2; exact ⟨fun _ z => z, v, rfl, h2⟩
      | obj r => rw [q] at h2; exact ⟨fun _ z => z, v, rfl, h2⟩
    · rw [List.getElem?_append_right (by simpa using hi), List.getElem?_replicate] at hk
      split at hk
      · obtain rfl := Option.some.inj hk; exact fun _ z => z
      · cases hk
theorem pure_def {M : Md} {x qual : Str} {st : Stmt} {f : Addr} {fd : FuncData} {N ps : List Str} {k : Nat} {R : List Ar → PyData → Prop} (n : Nat) (Fu : Fun M.K x qual st f fd) (S : FnScope N ps (defScope st)) (hlen : ∀ ars d, R ars d → ars.length = ps.length) (hn : N.length = ps.length + n)
    (body : ∀ (X : Cx) (F : Fr) (σ : L2.St) (ars : List Ar) (d : PyData) (Γ : List Kd), Cok X M F N (defScope st) k → Bok X → R ars d → ars.map Ar.kd ++ List.replicate n .un = Γ → Env F F.G0 F.B σ Γ (fun _ _ => False) → wSs X (defBody st) (pEnds F d) σ F.B) :
    FnOk M.P M.w M.K M.mg M.base (L2.CX M.P M.w) (k + 1) f fd ps (spP M.K R) := by
  refine Fu.okX S (fun vs H Q E h => ?_) (fun cdv A outer s H vs Q E hr h => ?_)
  · obtain ⟨G, ars, d, _, h1, h2, _⟩ := h
    rw [h2.len]; exact hlen ars d h1
  · obtain ⟨G, ars, d, e, h1, h2, q⟩ := h
    have En := env_start (M := M) (N := N) (n := n) e h2 (by rw [hlen ars d h1]; exact hn)
    obtain ⟨t, p, h3⟩ := body ((cxOf (L2.CX M.P M.w) M.P M.w M.K M.mg M.base N qual (defScope st) f cdv A outer s H E).nox) ⟨M.K, H, G⟩ (L2.start N vs) ars d _ ⟨rfl, rfl, rfl, rfl, rfl, rfl, rfl, rfl, S.nd, rfl, hr⟩ ⟨fun _ => rfl, PassesOwn.never, rfl, rfl⟩ h1 rfl En
    refine ⟨fun D σ H' => t (pEnds ⟨M.K, H, G⟩ d) σ H' ∧ D = { nx := fun _ H' => Q .non H', rt := Q }, ⟨fun pins s1 σ1 H1 D I hw => ?_⟩, h3, rfl⟩
    obtain ⟨hw, rfl⟩ := hw
    refine thn (p.nox.run pins s1 σ1 H1 _ I hw) fun fl s2 hq => ?_
    cases fl with
    | next =>
      obtain ⟨σ', H', I', rfl, G', w⟩ := hq
      exact ⟨σ', H', I', q _ _ _ w .non⟩
    | ret u =>
      obtain ⟨v, σ', H', I', r, G', w, rv⟩ := hq
      exact ⟨v, σ', H', I', r, q _ _ _ w rv⟩
    | brk => exact hq
    | cont => exact hq

/-! ## statements -/
section
variable {X : Cx} {M : Md} {F : Fr} {N : List Str} {sc scope : Scope} {kk : Nat} {Γ : List Kd} {e a b c elt src : Expr} {es ifs : List Expr} {rest body : List Stmt} {st : Stmt} {D : Ends} {σ : L2.St} {G H : Hp} {Fs : Nat → Addr → Prop} {d da db : PyData} {ds : List PyData} {p pos px : Pos} {x y : Str} {i j : Nat} {k k2 : Kd}
theorem ws_nil (q : D.nx σ H) : wSs X [] D σ H := ⟨_, pss_nil, q⟩
theorem ws_cons (q : wS X st { D with nx := fun σ H => wSs X rest D σ H } σ H) : wSs X (st :: rest) D σ H := ⟨_, pss_cons ps_w pss_w, q⟩
theorem Cok.loc (C : Cok X M F N sc kk) (h : Loc sc x) : Loc X.env.scope x := by rw [C.hs]; exact h
def noComp : Expr → Bool
  | .ListComp .. => false
  | .SetComp .. => false
  | .DictComp .. => false
  | _ => true
theorem sw_no {e : Expr} (h : noComp e = true) (t : Option Expr) (l : Nat) (env : PySem.Env) : swapsWith e t l env = pure false := by
  cases e <;> first | rfl | cases h
theorem ws_set (C : Cok X M F N sc kk) (B : Bok X) (E : Env F G H σ Γ Fs) (hx : Sel N Γ x i k) (hd : k.dry = true) (hl : Loc sc x) (h : EP X F Γ e d) {Γ' : List Kd} (hΓ : Γ.set i (.val d) = Γ') (q : ∀ σ' G' H', Env F G' H' σ' Γ' Fs → wSs X rest D σ' H') (hc : noComp e = true := by rfl) :
    wSs X (.Assign [.Name x px] e pos :: rest) D σ H := by
  subst hΓ
  refine ws_cons ⟨_, ps_set (by rw [C.hN]; exact C.nd) (by rw [C.hN]; exact hx.n) (C.loc hl) pe_w (sw_no hc _ _ _) (.inl (B.fn x)), ?_⟩
  exact h σ G H Fs E _ fun v G1 H1 w1 r1 => q _ G1 H1 ((E.grow w1).putD hx.k hd (kat_val r1))
/-- a new list under a name: it may be changed -/
theorem ws_own (C : Cok X M F N sc kk) (B : Bok X) (E : Env F G H σ Γ Fs) (hx : Sel N Γ x i k) (hd : k.dry = true) (hl : Loc sc x) (h : NP X F Γ e ds) {Γ' : V → List Kd} (hΓ : ∀ v, Γ.set i (.own v ds) = Γ' v) (q : ∀ v σ' G' H' Fs', Env F G' H' σ' (Γ' v) Fs' → wSs X rest D σ' H') (hc : noComp e = true := by rfl) :
    wSs X (.Assign [.Name x px] e pos :: rest) D σ H := by
  obtain rfl : (fun v => Γ.set i (.own v ds)) = Γ' := funext hΓ
  refine ws_cons ⟨_, ps_set (by rw [C.hN]; exact C.nd) (by rw [C.hN]; exact hx.n) (C.loc hl) pe_w (sw_no hc _ _ _) (.inl (B.fn x)), ?_⟩
  refine h σ G H Fs E _ fun a vs G1 H1 w1 hn hg h1 hc r1 => q _ _ G1 H1 _ ((E.grow w1).put (v := some (.ref a)) (P := fun b => b = a) hx.k hd ⟨rfl, a, vs, rfl, fun _ => .rfl, h1, hc, r1⟩ fun b hb => ?_)
  subst hb
  exact ⟨E.bh.none hn, hg, (by rw [h1]; exact fun z => nomatch z), fun j z => (E.fp j _ z).2.2.1 hn⟩
theorem w_lc (C : Cok X M F N sc kk) {tg : Expr} {pos' : Pos} (hl : sc.names.lookup x = some .local) (hx : Sel N Γ x i k) (hk : X.env.scope.kind = .function) (h : CP X F Γ elt tg src ifs scope ds) (E : Env F G H σ Γ Fs) (hln : (px.line == pos.line) = true)
    (hn : (scope.names.any fun (n, k) => n == x && (k == .local || k == .cell)) = false) (hs : ∀ x, foldedSetIterable src X.env x = pure x)
    (q : ∀ a vs G' H', Grow G H G' H' → H a = none → G' a = none → H' a = some (.lst vs) → ds.length ≤ cap → RpL G' vs ds → D.nx (σ.set i (some (.ref a))) H') :
    wS X (.Assign [.Name x px] (.ListComp elt [⟨tg, src, ifs, 0⟩] scope pos) pos') D σ H := by
  obtain ⟨wi, g, tt, te, own, h1, h2, h3, h4, h5, h6⟩ := h σ G H Fs E (fun v H' => D.nx (σ.set i (some v)) H') fun a vs G' H' w1 w2 w3 w4 w5 w6 => q a vs G' H' w1 w2 w3 w4 w5 w6
  exact ⟨_, ps_setLc C.calm (by rw [C.hN]; exact C.nd) (by rw [C.hN]; exact hx.n) (by rw [C.hs]; exact hl) (sw_true hk (by rw [C.hs]; exact hl) hln hn) h1 h2 h3 h4 h5 hs, h6⟩
/-- y = [.. for ..] (y a name that no comprehension reads): it stands still -/
theorem ws_setLc (C : Cok X M F N sc kk) (B : Bok X) (E : Env F G H σ Γ Fs) {tg : Expr} {pos' : Pos} (hx : Sel N Γ x i k) (hd : k.dry = true) (hl : sc.names.lookup x = some .local) (hk : sc.kind = .function) (h : CP X F Γ elt tg src ifs scope ds) (hln : (px.line == pos.line) = true)
    (hn : (scope.names.any fun (n, k) => n == x && (k == .local || k == .cell)) = false) (hs : ∀ x, foldedSetIterable src X.env x = pure x) {Γ' : List Kd} (hΓ : Γ.set i (.val (.list ds)) = Γ') (q : ∀ σ' G' H', Env F G' H' σ' Γ' Fs → wSs X rest D σ' H') :
    wSs X (.Assign [.Name x px] (.ListComp elt [⟨tg, src, ifs, 0⟩] scope pos) pos' :: rest) D σ H := by
  subst hΓ
  refine ws_cons (w_lc C hl hx (by rw [C.hs]; exact hk) h E hln hn hs fun a vs G1 H1 w1 hn hg h1 hc r1 => ?_)
  have w2 := w1.freeze hn hg h1
  exact q _ _ H1 ((E.grow w2).putD hx.k hd (kat_val (.lst upd_same hc (r1.mono (.new hg)))))
theorem ws_ownLc (C : Cok X M F N sc kk) (B : Bok X) (E : Env F G H σ Γ Fs) {tg : Expr} {pos' : Pos} (hx : Sel N Γ x i k) (hd : k.dry = true) (hl : sc.names.lookup x = some .local) (hk : sc.kind = .function) (h : CP X F Γ elt tg src ifs scope ds) (hln : (px.line == pos.line) = true)
    (hn : (scope.names.any fun (n, k) => n == x && (k == .local || k == .cell)) = false) (hs : ∀ x, foldedSetIterable src X.env x = pure x) {Γ' : V → List Kd} (hΓ : ∀ v, Γ.set i (.own v ds) = Γ' v) (q : ∀ v σ' G' H' Fs', Env F G' H' σ' (Γ' v) Fs' → wSs X rest D σ' H') :
    wSs X (.Assign [.Name x px] (.ListComp elt [⟨tg, src, ifs, 0⟩] scope pos) pos' :: rest) D σ H := by
  obtain rfl : (fun v => Γ.set i (.own v ds)) = Γ' := funext hΓ
  refine ws_cons (w_lc C hl hx (by rw [C.hs]; exact hk) h E hln hn hs fun a vs G1 H1 w1 hn hg h1 hc r1 => q _ _ G1 H1 _ ((E.grow w1).put (v := some (.ref a)) (P := fun b => b = a) hx.k hd ⟨rfl, a, vs, rfl, fun _ => .rfl, h1, hc, r1⟩ fun b hb => ?_))
  subst hb
  exact ⟨E.bh.none hn, hg, (by rw [h1]; exact fun z => nomatch z), fun j z => (E.fp j _ z).2.2.1 hn⟩
theorem ws_ret (E : Env F G H σ Γ Fs) (h : EP X F Γ e d) (q : ∀ v G' H', Env F G' H' σ Γ Fs → Rp G' v d → D.rt v H') : wSs X (.Return (some e) pos :: rest) D σ H :=
  ws_cons ⟨_, ps_ret pe_w, h σ G H Fs E _ fun v G1 H1 w1 r1 => q v G1 H1 (E.grow w1) r1⟩
theorem ws_retP {d' : PyData} (E : Env F G H σ Γ Fs) (h : EP X F Γ e d) (he : d = d') (hD : D.rt = pRt d' F := by rfl) : wSs X (.Return (some e) pos :: rest) D σ H :=
  ws_ret E h fun v G' H' E' r => by rw [hD]; exact ⟨G', E'.done, he ▸ r⟩
theorem ws_if {t : Bool} {A B : List Stmt} (E : Env F G H σ Γ Fs) (h : TP_ X F Γ c t) (h1 : t = true → ∀ G' H', Env F G' H' σ Γ Fs → wSs X A { D with nx := fun σ H => wSs X rest D σ H } σ H') (h2 : t = false → ∀ G' H', Env F G' H' σ Γ Fs → wSs X B { D with nx := fun σ H => wSs X rest D σ H } σ H') :
    wSs X (.If c A B pos :: rest) D σ H := by
  refine ws_cons ⟨_, ps_if pt_w pss_w pss_w, h σ G H Fs E _ fun G1 H1 w1 => ?_⟩
  cases t with
  | true => exact iteT (h1 rfl G1 H1 (E.grow w1))
  | false => exact iteF (h2 rfl G1 H1 (E.grow w1))
theorem ws_aug {m n z : Int} {op : Operator} {g : Int → Int → Int} (C : Cok X M F N sc kk) (B : Bok X) (E : Env F G H σ Γ Fs) (hx : Sel N Γ x i (.val (.int m))) (hl : Loc sc x) (h : EP X F Γ e (.int n)) (ho : PIp X op (ipI g)) (hz : g m n = z) {Γ' : List Kd} (hΓ : Γ.set i (.val (.int z)) = Γ') (q : ∀ σ' G' H', Env F G' H' σ' Γ' Fs → wSs X rest D σ' H') :
    wSs X (.AugAssign (.Name x px) op e pos :: rest) D σ H := by
  subst hΓ
  refine ws_cons ⟨_, ps_aug (by rw [C.hN]; exact C.nd) (by rw [C.hN]; exact hx.n) (C.loc hl) pe_w ho (.inl (B.fn x)), ?_⟩
  obtain ⟨_, v, h1, h2⟩ := E.sl i _ hx.k
  obtain rfl := h2.int_inv
  refine ⟨_, join_some h1, h σ G H Fs E _ fun v G1 H1 w1 r1 => ?_⟩
  obtain rfl := r1.int_inv
  subst hz
  exact ⟨m, n, rfl, rfl, q _ G1 H1 ((E.grow w1).putD hx.k rfl (kat_val .int))⟩
theorem few_one {e : Expr} (h : plainE e = true) {cpos : Pos} {env : PySem.Env} : ((backTo cpos (starEach [e] env)).all (fun x => !x.1) && (backToKw cpos (keywordEach [] env)).all (fun x => x.1.isSome) && decide (([e] : List Expr).length + ([] : List Keyword).length + (if ([] : List Keyword).isEmpty then 0 else 1) < 30)) = true := by
  rw [star_plain h]; rfl
/-- xs.append(e) -/
theorem ws_append {v : V} {pa pc : Pos} (C : Cok X M F N sc kk) (E : Env F G H σ Γ Fs) (hx : Sel N Γ x i (.own v ds)) (hv : Vis sc x) (h : EP X F Γ e d) (hlen : ds.length < cap) {Γ' : List Kd} (hΓ : Γ.set i (.own v (ds ++ [d])) = Γ') (q : ∀ G' H' Fs', Env F G' H' σ Γ' Fs' → wSs X rest D σ H')
    (pl : plainE e = true := by rfl) (hb : attributeBase (.Name x px) "append" X.env (eval (.Name x px) X.env) = eval (.Name x px) X.env := by rfl) (hline : (pa.endLine == pc.line) = true := by rfl) (hd : (x == ("__debug__" : Str)) = false := by decide) (hcd : (x == ("__classdict__" : Str)) = false := by decide) :
    wSs X (.Expr (.Call (.Attribute (.Name x px) "append" pa) [e] [] pc) pos :: rest) D σ H := by
  subst hΓ
  refine ws_cons ⟨_, ps_expr (pe_bm PySem.F.plainAttrs_list PySem.F.slot_list_append PySem.F.type_list_append mt_append pe_w (pa_cons pe_w pa_nil (star_plain pl _ _)) hb (few_one pl) hline (star_plain pl _ _) rfl), ?_⟩
  obtain ⟨h1, a, vs, rfl, hP, h3, h4, h5⟩ := E.sl i _ hx.k
  refine w_name C hx hv h1 ?_ hd hcd
  refine ⟨.inl ⟨rfl, vs, .inl (.inl h3)⟩, h σ G H Fs E _ fun v G1 H1 w1 r1 => ?_⟩
  have E1 := E.grow w1
  refine ⟨a, vs, v, rfl, rfl, w1.h _ _ h3, by rw [h5.len]; exact cap_lt hlen, q G1 _ _ (E1.chg hx.k (P := fun b => b = a) ⟨by rw [h1], a, vs ++ [v], rfl, fun _ => .rfl, upd_same, ?_, (h5.mono w1.g).append (.cons r1 .nil)⟩ (fun b hb o ho => ?_) fun b hb => ?_)⟩
  · rw [List.length_append, List.length_singleton]; exact hlen
  · rw [upd_ne fun z => hb ((hP b).mpr z)]; exact ho
  · subst hb; exact ⟨(by rw [upd_same]; exact fun z => nomatch z), .inl ((hP _).mpr rfl)⟩
/-- xs.extend(e) -/
theorem ws_extend {v : V} {pa pc : Pos} {zs : List PyData} (C : Cok X M F N sc kk) (E : Env F G H σ Γ Fs) (hx : Sel N Γ x i (.own v ds)) (hv : Vis sc x) (h : LP X F Γ e zs) (hlen : ds.length + zs.length ≤ cap) {Γ' : List Kd} (hΓ : Γ.set i (.own v (ds ++ zs)) = Γ') (q : ∀ G' H' Fs', Env F G' H' σ Γ' Fs' → wSs X rest D σ H')
    (pl : plainE e = true := by rfl) (hb : attributeBase (.Name x px) "extend" X.env (eval (.Name x px) X.env) = eval (.Name x px) X.env := by rfl) (hline : (pa.endLine == pc.line) = true := by rfl) (hd : (x == ("__debug__" : Str)) = false := by decide) (hcd : (x == ("__classdict__" : Str)) = false := by decide) :
    wSs X (.Expr (.Call (.Attribute (.Name x px) "extend" pa) [e] [] pc) pos :: rest) D σ H := by
  subst hΓ
  refine ws_cons ⟨_, ps_expr (pe_bm PySem.F.plainAttrs_list PySem.F.slot_list_extend PySem.F.type_list_extend mt_extend pe_w (pa_cons pe_w pa_nil (star_plain pl _ _)) hb (few_one pl) hline (star_plain pl _ _) rfl), ?_⟩
  obtain ⟨h1, a, vs, rfl, hP, h3, h4, h5⟩ := E.sl i _ hx.k
  refine w_name C hx hv h1 ?_ hd hcd
  refine ⟨.inl ⟨rfl, vs, .inl (.inl h3)⟩, h σ G H Fs E _ fun b ws G1 H1 w1 hb hc r1 => ?_⟩
  have E1 := E.grow w1
  refine ⟨a, b, vs, ws, rfl, rfl, w1.h _ _ h3, hb, by rw [h5.len, r1.len]; exact cap_le hlen, q G1 _ _ (E1.chg hx.k (P := fun b => b = a) ⟨by rw [h1], a, vs ++ ws, rfl, fun _ => .rfl, upd_same, ?_, (h5.mono w1.g).append r1⟩ (fun b hb o ho => ?_) fun b hb => ?_)⟩
  · rw [List.length_append]; exact hlen
  · rw [upd_ne fun z => hb ((hP b).mpr z)]; exact ho
  · subst hb; exact ⟨(by rw [upd_same]; exact fun z => nomatch z), .inl ((hP _).mpr rfl)⟩
/-- a list under a name stands still from here on -/
theorem Env.freeze {v : V} (E : Env F G H σ Γ Fs) (hi : Γ[i]? = some (.own v ds)) : ∃ G' Fs', Env F G' H σ (Γ.set i (.val (.list ds))) Fs' := by
  obtain ⟨h1, a, vs, rfl, hP, h3, h4, h5⟩ := E.sl i _ hi
  have hi' : i < Γ.length := (List.getElem?_eq_some_iff.mp hi).1
  have ha := E.fp i a ((hP a).mpr rfl)
  have gg : Ex G (upd G a (.lst vs)) := .new ha.2.1
  refine ⟨upd G a (.lst vs), fun j => if j = i then (fun _ => False) else Fs j, fun b o q => ?_, E.bh, E.g0.trans gg, fun b hb => ?_, by rw [List.length_set]; exact E.len, fun j q hj => ?_, fun j l b z1 z2 => ?_, fun j b z => ?_⟩
  · by_cases z : b = a
    · subst z; rw [upd_same] at q; rw [h3]; exact q
    · rw [upd_ne z] at q; exact E.gh _ _ q
  · rw [upd_ne (show b ≠ a from fun z => hb (by rw [z]; exact ha.1))]; exact E.go b hb
  · by_cases z : j = i
    · subst z
      rw [List.getElem?_set_self hi'] at hj
      obtain rfl := Option.some.inj hj
      rw [if_pos rfl]
      exact ⟨fun _ z => z, _, h1, .lst upd_same h4 (h5.mono gg)⟩
    · rw [List.getElem?_set_ne (Ne.symm z)] at hj
      rw [if_neg z]
      exact (E.sl j q hj).mono gg fun _ _ => rfl
  · by_cases y1 : j = i
    · simp only [y1, if_true] at z1
    · by_cases y2 : l = i
      · simp only [y2, if_true] at z2
      · simp only [y1, y2, if_false] at z1 z2; exact E.dis j l b z1 z2
  · by_cases y1 : j = i
    · simp only [y1, if_true] at z
    · simp only [y1, if_false] at z
      have f := E.fp j b z
      refine ⟨f.1, ?_, f.2.2.1, by rw [List.length_set]; exact f.2.2.2⟩
      rw [upd_ne]
      · exact f.2.1
      · intro w; exact y1 (E.dis j i b z ((hP b).mpr w))
theorem ws_freeze {v : V} {sts : List Stmt} (E : Env F G H σ Γ Fs) (hx : Kx Γ i (.own v ds)) {Γ' : List Kd} (hΓ : Γ.set i (.val (.list ds)) = Γ') (q : ∀ G' Fs', Env F G' H σ Γ' Fs' → wSs X sts D σ H) : wSs X sts D σ H := by
  subst hΓ
  obtain ⟨G', Fs', E'⟩ := E.freeze hx.kd
  exact q G' Fs' E'
end
end Rn

namespace Rn
open PySem PySem.Spec PyProof.Rows L2

/-! ## loops -/
/-- what stood still at G1 goes on standing still -/
abbrev Fr.pin (F : Fr) (G1 : Hp) : Fr := ⟨F.K, F.B, G1⟩
def RtMono (Rt : Fr → VK) : Prop := ∀ (F : Fr) (G1 : Hp), Ex F.G0 G1 → (∀ a, F.B a ≠ none → G1 a = F.G0 a) → ∀ v H, Rt (F.pin G1) v H → Rt F v H
theorem pRt_mono {d : PyData} : RtMono (pRt d) := fun F G1 g o v H ⟨G, w, r⟩ => ⟨G, ⟨g.trans w.g, w.s, w.h, fun a h => (w.o a h).trans (o a h)⟩, r⟩
section
variable {X : Cx} {M : Md} {F : Fr} {N : List Str} {sc scope : Scope} {kk : Nat} {Γ : List Kd} {e a b c elt src : Expr} {es ifs : List Expr} {rest body : List Stmt} {st : Stmt} {D : Ends} {σ : L2.St} {G H : Hp} {Fs : Nat → Addr → Prop} {d da db : PyData} {ds : List PyData} {p pos px : Pos} {x y : Str} {i j : Nat} {k k2 : Kd}
theorem Cok.pin {G1 : Hp} (C : Cok X M F N sc kk) : Cok X M (F.pin G1) N sc kk := ⟨C.hP, C.hw, C.hK, C.hF, C.hM, C.hb, C.hN, C.hs, C.nd, C.calm, C.room⟩
theorem Env.pin {σ' : L2.St} {Γ' : List Kd} {Fs' : Nat → Addr → Prop} {G1 H1 G' H' : Hp} (E : Env F G1 H1 σ Γ Fs) (E' : Env F G' H' σ' Γ' Fs') (g : Ex G1 G') : Env (F.pin G1) G' H' σ' Γ' Fs' :=
  ⟨E'.gh, E'.bh, g, fun a h => (E'.go a h).trans (E.go a h).symm, E'.len, E'.sl, E'.dis, E'.fp⟩
theorem Env.unpin {σ' : L2.St} {Γ' : List Kd} {Fs' : Nat → Addr → Prop} {G1 H1 G' H' : Hp} (E : Env F G1 H1 σ Γ Fs) (E' : Env (F.pin G1) G' H' σ' Γ' Fs') : Env F G' H' σ' Γ' Fs' :=
  ⟨E'.gh, E'.bh, E.g0.trans E'.g0, fun a h => (E'.go a h).trans (E.go a h), E'.len, E'.sl, E'.dis, E'.fp⟩
/-- somewhere with names as J says -/
def Nx (F : Fr) (J : List Kd → Prop) (σ : L2.St) (H : Hp) : Prop := ∃ G Γ Fs, Env F G H σ Γ Fs ∧ J Γ
def plainIt : Expr → Bool
  | .Set .. => false
  | _ => true
theorem fold_no {e : Expr} (h : plainIt e = true) (env : PySem.Env) (x : Value) : foldedSetIterable e env x = pure x := by
  cases e <;> first | rfl | cases h
theorem passB (B : Bok X) : PassesOwn (model X.prog X.w) X.A X.env X.xe := B.pass
theorem pg_nm (C : Cok X M F N sc kk) (B : Bok X) (hx : N[i]? = some x) (hl : Loc sc x) : PG X (.Name x px) (gName i) := pg_name (by rw [C.hN]; exact C.nd) (by rw [C.hN]; exact hx) (C.loc hl) (.inl (B.fn x))
/-- the ends of a loop's body: J behind a turn, JB at a break -/
def loopE (F : Fr) (Rt : Fr → VK) (J JB : List Kd → Prop) : Ends := { nx := Nx F J, rt := Rt F, bk := Nx F JB, ct := Nx F J }
theorem wSs_mono {D D' : Ends} {sts : List Stmt} (h : wSs X sts D σ H) (h1 : ∀ σ H, D.nx σ H → D'.nx σ H) (h2 : ∀ v H, D.rt v H → D'.rt v H) (h3 : ∀ σ H, D.bk σ H → D'.bk σ H) (h4 : ∀ σ H, D.ct σ H → D'.ct σ H) : wSs X sts D' σ H := by
  obtain ⟨t, p, q⟩ := h
  refine ⟨fun E σ H => t D σ H ∧ E = D', ⟨fun pins s σ1 H1 D1 I hw => ?_⟩, q, rfl⟩
  obtain ⟨hw, rfl⟩ := hw
  refine thn (p.run pins s σ1 H1 _ I hw) fun fl s2 hq => ?_
  cases fl with
  | next => obtain ⟨σ', H', I', z⟩ := hq; exact ⟨σ', H', I', h1 _ _ z⟩
  | ret u => obtain ⟨v, σ', H', I', r, z⟩ := hq; exact ⟨v, σ', H', I', r, h2 _ _ z⟩
  | brk => obtain ⟨σ', H', I', z⟩ := hq; exact ⟨σ', H', I', h3 _ _ z⟩
  | cont => obtain ⟨σ', H', I', z⟩ := hq; exact ⟨σ', H', I', h4 _ _ z⟩

/-- for x in (a list that stands still) -/
theorem ws_for {α : Type} {f : α → PyData} {xs : List α} (Rt : Fr → VK) (J : Nat → List Kd → Prop) (JB : List Kd → Prop) (C : Cok X M F N sc kk) (B : Bok X) (E : Env F G H σ Γ Fs) (hx : N[i]? = some x) (hl : Loc sc x) (hs : EP X F Γ src (.list (xs.map f))) (hR : RtMono Rt) (hD : D.rt = Rt F)
    (hJ : ∀ j Γ', J j Γ' → ∃ k, Γ'[i]? = some k ∧ k.dry = true) (h0 : J 0 Γ)
    (hb : ∀ G1, Cok X M (F.pin G1) N sc kk → ∀ j y Γ', xs[j]? = some y → J j Γ' → ∀ σ G H Fs, Env (F.pin G1) G H σ (Γ'.set i (.val (f y))) Fs → wSs X body (loopE (F.pin G1) Rt (J (j + 1)) JB) σ H)
    (he : ∀ Γ', J xs.length Γ' ∨ JB Γ' → ∀ σ G H Fs, Env F G H σ Γ' Fs → wSs X rest D σ H) (hp : plainIt src = true := by rfl) : wSs X (.For (.Name x px) src body [] pos :: rest) D σ H := by
  refine ws_cons ⟨_, ps_for (passB B) C.calm (pi_list pe_w) (pg_nm C B hx hl) pss_w (fold_no hp X.env), ?_⟩
  refine hs σ G H Fs E _ fun v G1 H1 w1 r1 => ?_
  obtain ⟨a, vs, rfl, h1, hc, r1⟩ := r1.lst_inv
  refine ⟨a, rfl, ⟨vs, .inl (.inl (w1.s _ _ h1))⟩, ?_⟩
  have el : vs.length = xs.length := by rw [r1.len, List.length_map]
  have E1 := E.grow w1
  refine for_list (xs := vs) (fun j σ H => ∃ G Γ Fs, Env (F.pin G1) G H σ Γ Fs ∧ J j Γ) ⟨G1, Γ, Fs, E1.pin E1 (.refl G1), h0⟩ (fun j σ' H' _ ⟨G', Γ', Fs', E', _⟩ => .inl (.inl (E'.gh _ _ (E'.g0 _ _ h1)))) (fun j v σ' H' hv ⟨G', Γ', Fs', E', hj⟩ => ?_) fun σ' H' ⟨G', Γ', Fs', E', hj⟩ => ?_
  · obtain ⟨dv, hdv, rv⟩ := r1.get' hv
    rw [List.getElem?_map] at hdv
    cases hy : xs[j]? with
    | none => rw [hy] at hdv; cases hdv
    | some y =>
      rw [hy] at hdv
      obtain rfl := Option.some.inj hdv
      obtain ⟨k, hk, hd⟩ := hJ j Γ' hj
      refine wSs_mono (hb G1 C.pin j y Γ' hy hj _ G' H' Fs' (E'.putD hk hd (kat_val (rv.mono E'.g0)))) (fun _ _ z => z) (fun v H z => ?_) (fun σ2 H2 ⟨G2, Γ2, Fs2, E2, z⟩ => he Γ2 (.inr z) σ2 G2 H2 Fs2 (E1.unpin E2)) (fun _ _ z => z)
      show D.rt v H
      rw [hD]
      exact hR F G1 E1.g0 E1.go v H z
  · rw [el] at hj
    exact he Γ' (.inl hj) σ' G' H' Fs' (E1.unpin E')
/-- for x in range(n) -/
theorem ws_forR {n : Int} {pr pc : Pos} (J : Nat → List Kd → Prop) (JB : List Kd → Prop) (Rt : Fr → VK) (C : Cok X M F N sc kk) (B : Bok X) (E : Env F G H σ Γ Fs) (hx : N[i]? = some x) (hl : Loc sc x) (hm : M.mg "range" = none) (hg : sc.names.lookup ("range" : Str) = some .globalImplicit) (hs : EP X F Γ e (.int n)) (h1 : -100000 ≤ n) (h2 : n ≤ 100000) (hD : D.rt = Rt F)
    (hJ : ∀ j Γ', J j Γ' → ∃ k, Γ'[i]? = some k ∧ k.dry = true) (h0 : J 0 Γ)
    (hb : ∀ j Γ', j < n.toNat → J j Γ' → ∀ σ G H Fs, Env F G H σ (Γ'.set i (.val (.int (j : Int)))) Fs → wSs X body (loopE F Rt (J (j + 1)) JB) σ H)
    (he : ∀ Γ', J n.toNat Γ' ∨ JB Γ' → ∀ σ G H Fs, Env F G H σ Γ' Fs → wSs X rest D σ H) (pl : plainE e = true := by rfl) : wSs X (.For (.Name x px) (.Call (.Name "range" pr) [e] [] pc) body [] pos :: rest) D σ H := by
  refine ws_cons ⟨_, ps_for (passB B) C.calm (pi_range1 (gl_of C hg) (C.mgn hm) (pa_cons pe_w pa_nil (star_plain pl _ _)) (by rw [star_plain pl]; rfl)) (pg_nm C B hx hl) pss_w (fold_no rfl X.env), ?_⟩
  refine hs σ G H Fs E _ fun v G1 H1 w1 r1 => ?_
  obtain rfl := r1.int_inv
  refine ⟨n, rfl, by omega, by omega, ?_⟩
  refine for_range (fun j σ H => Nx F (J j) σ H) ⟨G1, Γ, Fs, E.grow w1, h0⟩ (fun j σ' H' hj ⟨G', Γ', Fs', E', hJj⟩ => ?_) fun σ' H' ⟨G', Γ', Fs', E', hj⟩ => he Γ' (.inl hj) σ' G' H' Fs' E'
  obtain ⟨k, hk, hd⟩ := hJ j Γ' hJj
  rw [Int.zero_add]
  refine wSs_mono (hb j Γ' hj hJj _ G' H' Fs' (E'.putD hk hd (kat_val .int))) (fun _ _ z => z) (fun v H z => ?_) (fun σ2 H2 ⟨G2, Γ2, Fs2, E2, z⟩ => he Γ2 (.inr z) σ2 G2 H2 Fs2 E2) (fun _ _ z => z)
  show D.rt v H
  rw [hD]
  exact z
/-- while c: J m holds ahead of each test, m falls -/
theorem ws_while (J : Nat → List Kd → Prop) (JB : List Kd → Prop) (Rt : Fr → VK) (C : Cok X M F N sc kk) (B : Bok X) (E : Env F G H σ Γ Fs) (hD : D.rt = Rt F) (m0 : Nat) (h0 : J m0 Γ)
    (hb : ∀ m Γ', J m Γ' → ∃ t, TP_ X F Γ' c t ∧ (t = true → ∀ σ G H Fs, Env F G H σ Γ' Fs → wSs X body (loopE F Rt (fun Γ2 => ∃ m', m' < m ∧ J m' Γ2) JB) σ H) ∧ (t = false → ∀ σ G H Fs, Env F G H σ Γ' Fs → wSs X rest D σ H))
    (he : ∀ Γ', JB Γ' → ∀ σ G H Fs, Env F G H σ Γ' Fs → wSs X rest D σ H) : wSs X (.While c body [] pos :: rest) D σ H := by
  refine ws_cons ⟨_, ps_while (passB B) pt_w pss_w, ?_⟩
  refine ⟨fun m σ H => Nx F (J m) σ H, ⟨m0, G, Γ, Fs, E, h0⟩, fun m σ' H' ⟨G', Γ', Fs', E', hj⟩ => ?_⟩
  obtain ⟨t, ht, hb1, hb2⟩ := hb m Γ' hj
  refine ht σ' G' H' Fs' E' _ fun G1 H1 w1 => ?_
  cases t with
  | false => exact iteF (hb2 rfl σ' G1 H1 Fs' (E'.grow w1))
  | true =>
    refine iteT ⟨Nx F (fun Γ2 => ∃ m', m' < m ∧ J m' Γ2), fun σ2 H2 ⟨G2, Γ2, Fs2, E2, m', hm, z⟩ => ⟨m', hm, G2, Γ2, Fs2, E2, z⟩, ?_⟩
    refine wSs_mono (hb1 rfl σ' G1 H1 Fs' (E'.grow w1)) (fun _ _ z => z) (fun v H z => ?_) (fun σ2 H2 ⟨G2, Γ2, Fs2, E2, z⟩ => he Γ2 z σ2 G2 H2 Fs2 E2) (fun _ _ z => z)
    show D.rt v H
    rw [hD]
    exact z
/-- an if, its two ways joined -/
theorem ws_ifJ {t : Bool} {A B : List Stmt} (J : List Kd → Prop) (E : Env F G H σ Γ Fs) (h : TP_ X F Γ c t) (h1 : t = true → ∀ G' H', Env F G' H' σ Γ Fs → wSs X A { D with nx := Nx F J } σ H') (h2 : t = false → ∀ G' H', Env F G' H' σ Γ Fs → wSs X B { D with nx := Nx F J } σ H')
    (hj : ∀ Γ', J Γ' → ∀ σ G H Fs, Env F G H σ Γ' Fs → wSs X rest D σ H) : wSs X (.If c A B pos :: rest) D σ H :=
  ws_if E h (fun z G' H' E' => wSs_mono (h1 z G' H' E') (fun σ H ⟨G, Γ, Fs, E, z⟩ => hj Γ z σ G H Fs E) (fun _ _ z => z) (fun _ _ z => z) (fun _ _ z => z)) (fun z G' H' E' => wSs_mono (h2 z G' H' E') (fun σ H ⟨G, Γ, Fs, E, z⟩ => hj Γ z σ G H Fs E) (fun _ _ z => z) (fun _ _ z => z) (fun _ _ z => z))
theorem ws_pass {pp : Pos} (q : wSs X rest D σ H) : wSs X (.Pass pp :: rest) D σ H := ws_cons ⟨_, ps_pass, q⟩
theorem ws_break (q : D.bk σ H) : wSs X (.Break p :: rest) D σ H := ws_cons ⟨_, ps_break, q⟩
theorem ws_cont (q : D.ct σ H) : wSs X (.Continue p :: rest) D σ H := ws_cons ⟨_, ps_continue, q⟩
end
end Rn

namespace Rn
open PySem PySem.Spec PyProof.Rows L2

/-! ## set(xs) of a list of hin, to be sorted -/
section
variable {P : Program} {w : World} {A : Around} {E : Value → Shared → Prop} {s : Shared}
abbrev sO (w : World) : Obj := { cls := .type "set", dict := none, data := .set #[] 0 (.fresh 0 0 (!w.params.followText "set-order")) }
theorem set_of_list {l : Addr} {its : Array Value} (ns : List Int) {Q : Value → Shared → Prop} (noH : A.handled = none) (isL : s.heap.IsList l its) (hin : IntsAre its.toList ns) (few : ns.length + 1 < scanBound)
    (q : ∀ (g : Heap) (tk c : Nat), SetR w g s.heap.objs.size (fun j => decide (j ∈ ns)) c → c ≤ ns.length → (∀ b o, s.heap.get? b = some o → g.get? b = some o) → Q (.ref s.heap.objs.size) { s with heap := g, toks := tk }) :
    wpAny (model P w) A (call (.type "set") [.ref l]) Q E s := by
  have sz : its.size = ns.length := by have := IntsAre.length hin; rwa [Array.length_toList] at this
  obtain ⟨c, tl, hmro⟩ := F.called_set.mro; have hmade := F.called_set.made; have hsub := F.called_set.sub
  refine wpAny_call (codeAny_of_tree ?_); show wpAny _ _ (callAny (.type "set") _) _ _ _
  refine wpAny_pure ⟨Code.quiet_builtin _ (by decide +kernel), (codeAny_builtin F.entry_type_call ?_)⟩; rw [(Around.under_plain (weight_type_call_type "set" [.ref l] []) rfl)]
  have k1 := F.called_set.notType; have k2 := F.called_set.canCreate; have k3 := (F.typeCall_set_1 (.ref l))
  repeat (any_goals (first | assumption | wp_step))
  refine codeAny_mono (code_set_led1 (.ref l) (E := E) (Q₁ := fun ob t => ob = .ref s.heap.objs.size ∧ t = { s with heap := s.heap.push (sO w) }) ⟨rfl, rfl⟩) fun r t hr => ?_
  cases r with
  | error e => exact hr
  | ok fl =>
    cases fl with
    | ret ob =>
      obtain ⟨rfl, rfl⟩ := hr
      have isO : (s.heap.push (sO w)).get? s.heap.objs.size = some (sO w) := Heap.get?_push_size _ rfl
      have isT : Shared.TypeIs { s with heap := s.heap.push (sO w) } (.ref s.heap.objs.size) "set" := ⟨_, isO, rfl⟩
      have k4 := F.called_set.init.lookup; have k5 := (F.called_set.init.bind (.ref s.heap.objs.size))
      repeat (any_goals (first | assumption | wp_step))
      refine codeAny_mono (codeAny_call_builtin (R := wants (fun z t => z = .none ∧ ∃ g tk c, t = { s with heap := g, toks := tk } ∧ SetR w g s.heap.objs.size (fun j => decide (j ∈ ns)) c ∧ c ≤ ns.length ∧ (∀ b o, s.heap.get? b = some o → g.get? b = some o)) E)
        F.called_set.init.plain F.entry_set_init (check_set_init_1 isT ?_)) fun r2 t2 hr2 => ?_
      · obtain ⟨ol, hol, hcl, nl, hdl⟩ := isL; obtain ⟨oc, od, oo, os⟩ := ol
        simp only at hcl hdl; subst hcl; subst hdl
        have old : (s.heap.push (sO w)).get? l = some { cls := .type "list", dict := od, data := .seq its nl, slots := os } := (Heap.get?_push_of_some _ hol)
        have j1 := F.sub_list_set; have j2 := F.sub_list_frozenset; have j3 : (Value.type "list" == Value.type "dict") = false := by decide
        have isL1 : (s.heap.push (sO w)).IsList l its := ⟨_, old, rfl, nl, rfl⟩
        unfold Builtin.«set.__init__» noKeywords Builtin.Frozenset.updateFrom; generalize hPI : pyIter = PI
        wp_walk
        subst hPI; refine wpAny_pyIter_list isL1 ?_; refine wpAny_bind (wpAny_runValue ?_)
        have lt : l < s.heap.objs.size := Heap.lt_size hol; have noH3 : A.in1.in1.in1.handled = none := by simp [noH]
        have ne : l ≠ (s.heap.push (sO w)).objs.size := by rw [Heap.size_push]; exact (Nat.ne_of_lt (Nat.lt_succ_of_lt lt))
        have nin : s.heap.objs.size ∉ [(s.heap.push (sO w)).objs.size, l] := by
          rw [Heap.size_push]; simp only [List.mem_cons, List.not_mem_nil, or_false, not_or]; exact ⟨Nat.ne_of_lt (Nat.lt_succ_self _), (Nat.ne_of_gt lt)⟩
        have val : ∀ (i : Nat) (v : Value), its[i]? = some v → ∃ k t, ns[i]? = some k ∧ v = .int k t := fun i v hv => by
          have hi : i < ns.length := by rw [← sz]; exact (Array.getElem?_eq_some_iff.mp hv).1
          obtain ⟨t, e⟩ := PyProof.Rows.IntsAre.int_at hin i v (by rw [Array.getElem?_toList]; exact hv)
          exact ⟨ns[i], t, List.getElem?_eq_getElem hi, by rw [e, List.getD_eq_getElem?_getD, List.getElem?_eq_getElem hi]; rfl⟩
        refine set_update_ints ((Walks.list noH3 _ l ne its).toS) s.heap.objs.size nin ns sz few val (its.size - 0) 0 _ (by omega) (Nat.zero_le _) ⟨⟨_, Heap.get?_push_size _ rfl, rfl, rfl⟩, (isL1.push _)⟩ ?z0 ?z1
        case z0 => exact ⟨0, Nat.le_refl 0, setR_new_at (Heap.get?_push_of_some _ isO)⟩
        case z1 =>
          intro t c mv hc hS
          obtain ⟨g, gn, dr, tk, os⟩ := t
          have e1 : gn = s.gens := mv.gens; have e2 : dr = s.drawn := mv.drawn; have e3 : os = s.os := mv.os
          subst e1; subst e2; subst e3; rw [sz] at hc
          show wpAny _ _ _ _ _ _
          refine wpAny_pure ?_
          show wpAny _ _ (ret Value.none) _ _ _
          refine wpAny_pure ⟨rfl, g, tk, c, rfl, hS, hc, fun b o e => ?_⟩
          have b0 : b < s.heap.objs.size := Heap.lt_size e
          refine mv.heap b o ?_ (Heap.get?_push_of_some _ (Heap.get?_push_of_some _ e))
          simp only [List.mem_cons, List.not_mem_nil, or_false, not_or]
          exact ⟨Nat.ne_of_lt b0, by rw [Heap.size_push]; exact (Nat.ne_of_lt (Nat.lt_succ_of_lt b0))⟩
      · cases r2 with
        | error e => exact hr2
        | ok fl2 =>
          cases fl2 with
          | ret r =>
            obtain ⟨rfl, g, tk, c, rfl, hS, hc, hk⟩ := hr2
            repeat (any_goals (first | assumption | wp_step))
            exact q _ _ _ hS hc hk
          | _ => exact hr2.elim
    | _ => exact hr.elim
end

end Rn

namespace Rn
open PySem PySem.Spec PyProof.Rows L2

/-! ## rising lists of ints -/
def insI (x : Int) : List Int → List Int
  | [] => [x]
  | y :: r => if x < y then x :: y :: r else if x = y then y :: r else y :: insI x r
/-- the members, rising -/
def rise (xs : List Int) : List Int := xs.foldr insI []
def Up (xs : List Int) : Prop := xs.Pairwise (· < ·)
theorem mem_insI {x k : Int} : ∀ {l : List Int}, k ∈ insI x l ↔ k = x ∨ k ∈ l
  | [] => by simp [insI]
  | y :: r => by
    unfold insI
    split
    · simp
    · split
      · rename_i h; subst h; simp
      · rw [List.mem_cons, mem_insI (l := r), List.mem_cons]
        constructor
        · rintro (h | h | h)
          · exact .inr (.inl h)
          · exact .inl h
          · exact .inr (.inr h)
        · rintro (h | h | h)
          · exact .inr (.inl h)
          · exact .inl h
          · exact .inr (.inr h)
theorem up_insI {x : Int} : ∀ {l : List Int}, Up l → Up (insI x l)
  | [], _ => by unfold insI; exact List.pairwise_singleton _ _
  | y :: r, h => by
    have h' := List.pairwise_cons.mp h
    unfold insI
    split
    · rename_i hx
      refine List.pairwise_cons.mpr ⟨fun z hz => ?_, h⟩
      rcases List.mem_cons.mp hz with e | e
      · rw [e]; exact hx
      · exact Int.lt_trans hx (h'.1 z e)
    · split
      · exact h
      · rename_i h1 h2
        refine List.pairwise_cons.mpr ⟨fun z hz => ?_, up_insI h'.2⟩
        rcases mem_insI.mp hz with e | e
        · rw [e]; omega
        · exact h'.1 z e
theorem mem_rise {k : Int} : ∀ {xs : List Int}, k ∈ rise xs ↔ k ∈ xs
  | [] => by simp [rise]
  | x :: r => by
    show k ∈ insI x (rise r) ↔ _
    rw [mem_insI, mem_rise (xs := r), List.mem_cons]
theorem up_rise : ∀ (xs : List Int), Up (rise xs)
  | [] => List.Pairwise.nil
  | x :: r => up_insI (up_rise r)
/-- a rising list is told by its members -/
theorem up_ext : ∀ {xs ys : List Int}, Up xs → Up ys → (∀ k, k ∈ xs ↔ k ∈ ys) → xs = ys
  | [], [], _, _, _ => rfl
  | [], y :: ys, _, _, h => absurd ((h y).mpr List.mem_cons_self) (by simp)
  | x :: xs, [], _, _, h => absurd ((h x).mp List.mem_cons_self) (by simp)
  | x :: xs, y :: ys, hx, hy, h => by
    have hx' := List.pairwise_cons.mp hx
    have hy' := List.pairwise_cons.mp hy
    have e : x = y := by
      rcases List.mem_cons.mp ((h x).mp List.mem_cons_self) with z | z
      · exact z
      · rcases List.mem_cons.mp ((h y).mpr List.mem_cons_self) with w | w
        · exact w.symm
        · have := hy'.1 x z; have := hx'.1 y w; omega
    subst e
    rw [up_ext hx'.2 hy'.2 fun k => ?_]
    constructor
    · intro hk
      rcases List.mem_cons.mp ((h k).mp (List.mem_cons_of_mem _ hk)) with z | z
      · have := hx'.1 k hk; omega
      · exact z
    · intro hk
      rcases List.mem_cons.mp ((h k).mpr (List.mem_cons_of_mem _ hk)) with z | z
      · have := hy'.1 k hk; omega
      · exact z
theorem rise_up {xs : List Int} (h : Up xs) : rise xs = xs := up_ext (up_rise xs) h fun _ => mem_rise
theorem insI_len {x : Int} : ∀ {l : List Int}, (insI x l).length ≤ l.length + 1
  | [] => by simp [insI]
  | y :: r => by
    unfold insI
    split
    · simp
    · split
      · simp
      · have := insI_len (x := x) (l := r)
        rw [List.length_cons, List.length_cons]; omega
theorem rise_len : ∀ (xs : List Int), (rise xs).length ≤ xs.length
  | [] => Nat.le_refl _
  | x :: r => by
    have := rise_len r
    have h := insI_len (x := x) (l := rise r)
    show (insI x (rise r)).length ≤ _
    rw [List.length_cons]; omega

theorem cutG_from {α : Type} {xs : List α} {h : Nat} (hh : h ≤ xs.length) : cutG xs (some (h : Int)) none = xs.drop h := by
  unfold cutG
  rw [HT.sIx_nat, HT.sIx_none, Nat.min_eq_left hh]
  exact List.take_of_length_le (by rw [List.length_drop]; omega)
theorem cutG_to {α : Type} {xs : List α} {h : Nat} (hh : h ≤ xs.length) : cutG xs none (some (h : Int)) = xs.take h := by
  unfold cutG
  rw [HT.sIx_nat, HT.sIx_none, Nat.min_eq_left hh, List.drop_zero, Nat.sub_zero]
section
variable {X : Cx}
theorem call_setL (hc : X.calm = true) : CallR X (.type "set") (fun xs H Q => ∃ (a : Addr) (ns : List Int), xs = [.ref a] ∧ SqL X.K H a (ns.map V.int) ∧ ns.length + 1 < scanBound ∧ ∀ p c, H p = none → c ≤ ns.length → Q (.ref p) (upd H p (SetO X.w p (fun j => decide (j ∈ ns)) c))) := by
  intro pins s σ H xs us Q I r h
  obtain ⟨a, ns, rfl, hs, few, q⟩ := h
  obtain ⟨its, rv, hl, hz⟩ := I.list hs
  rw [Vals.ref1 r]
  have hi : IntsAre its ns := ints_of_vals rv
  refine set_of_list ns (I.ok.hd hc) hl.isList (by simpa using hi) few fun g tk c hS hcl hk => ?_
  have hn : H s.heap.objs.size = none := I.hok.fresh (Nat.le_refl _)
  exact ⟨.ref _, upd H s.heap.objs.size (SetO X.w s.heap.objs.size (fun j => decide (j ∈ ns)) c), I.laid (t' := tk) hk (Nat.le_refl _) (setO_new hS), rfl, q _ c hn hcl⟩
end
section
variable {X : Cx} {M : Md} {F : Fr} {N : List Str} {sc : Scope} {kk : Nat} {Γ : List Kd} {e a b c : Expr} {es : List Expr} {d da db : PyData} {ds : List PyData} {p p2 q2 pos : Pos} {x : Str} {i : Nat} {k : Kd}
/-- an item of a list, a tuple of whole numbers -/
theorem ep_ixI {ns : List Int} {j : Int} (ha : LP X F Γ a (ns.map .int)) (hb : EP X F Γ b (.int j)) (h0 : 0 ≤ j) (h1 : j < ns.length) (hs : PlainIx b := by exact fun _ _ => rfl) : EP X F Γ (.Subscript a b pos) (.int (ns.getD j.toNat 0)) := ep_ixM ha hb h0 h1 hs
theorem ep_ixIT {ns : List Int} {j : Int} (ha : EP X F Γ a (.tuple (ns.map .int))) (hb : EP X F Γ b (.int j)) (h0 : 0 ≤ j) (h1 : j < ns.length) (hs : PlainIx b := by exact fun _ _ => rfl) : EP X F Γ (.Subscript a b pos) (.int (ns.getD j.toNat 0)) := ep_ixMT ha hb h0 h1 hs
inductive IntsOf : List PyData → List Int → Prop
  | nil : IntsOf [] []
  | cons {x : Int} {ds : List PyData} {ns : List Int} : IntsOf ds ns → IntsOf (.int x :: ds) (x :: ns)
theorem IntsOf.eq : ∀ {ds : List PyData} {ns : List Int}, IntsOf ds ns → ds = ns.map .int
  | _, _, .nil => rfl
  | _, _, .cons h => by rw [h.eq]; rfl
theorem ep_ixJ {ns : List Int} {j : Int} (ha : LP X F Γ a ds) (hi : IntsOf ds ns) (hb : EP X F Γ b (.int j)) (h0 : 0 ≤ j) (h1 : j < ns.length) (hs : PlainIx b := by exact fun _ _ => rfl) : EP X F Γ (.Subscript a b pos) (.int (ns.getD j.toNat 0)) := by
  rw [hi.eq] at ha
  exact ep_ixM ha hb h0 h1 hs
/-- an item of any list -/
theorem ep_ixG {j : Int} (ha : LP X F Γ a ds) (hb : EP X F Γ b (.int j)) (h0 : 0 ≤ j) (h1 : j < ds.length) (hs : PlainIx b := by exact fun _ _ => rfl) : EP X F Γ (.Subscript a b pos) (ds.getD j.toNat .none) := by
  refine ep_ixL ha hb ?_ hs
  have hj : j.toNat < ds.length := by omega
  unfold atI ixN
  rw [if_pos h0, if_pos h1, List.getD_eq_getElem?_getD, List.getElem?_eq_getElem hj]
  exact List.getElem?_eq_getElem hj
theorem np_lstI {ns : List Int} (h : NP X F Γ e ds) (hi : IntsOf ds ns) : NP X F Γ e (ns.map .int) := by rw [← hi.eq]; exact h
/-- sorted(set(xs)) of whole numbers -/
theorem np_sset (C : Cok X M F N sc kk) (hm : M.mg "sorted" = none) (hm2 : M.mg "set" = none) {ns : List Int} (ha : LP X F Γ a (ns.map .int)) (hl : ns.length < 64) (hg : sc.names.lookup ("sorted" : Str) = some .globalImplicit) (hg2 : sc.names.lookup ("set" : Str) = some .globalImplicit) (pl : plainE a = true := by rfl) :
    NP X F Γ (.Call (.Name "sorted" p) [.Call (.Name "set" p2) [a] [] q2] [] pos) ((rise ns).map .int) := fun σ G H Fs E Q q => by
  refine ⟨_, pe_callB (cr_sortedSet C.calm) (gl_of C hg) (C.mgn hm) (by decide +kernel) (pa_cons (pe_callTy (call_setL C.calm) (gl_of C hg2) (C.mgn hm2) (by decide +kernel) (pa_cons pe_w pa_nil (star_plain pl _ _)) (he := star_plain pl _ _)) pa_nil), ?_⟩
  refine ha σ G H Fs E _ fun a vs G1 H1 w1 h1 hc r1 => ?_
  obtain rfl := r1.ints_inv
  refine ⟨a, ns, rfl, .inl (.inl h1), Nat.lt_of_le_of_lt hl (by decide), fun z c hz hcl => ?_⟩
  refine ⟨z, _, c, rfl, upd_same, by omega, fun ms y hu hm hln hy => ?_⟩
  have e : ms = rise ns := up_ext hu (up_rise ns) fun k => by rw [hm k, mem_rise]; simp
  subst e
  have hy1 : H1 y = none := Ex.none (.new hz) hy
  have g2 : Grow G1 H1 G1 (upd H1 z (SetO X.w z (fun j => decide (j ∈ ns)) c)) := .raw w1.s hz
  have w := w1.trans g2
  refine q y _ G1 _ (w.trans (.raw w.s hy)) (w1.h.none hy1) (w1.s.none hy1) upd_same ?_ (.ints _)
  rw [List.length_map]
  exact Nat.le_trans (rise_len ns) (Nat.le_trans (Nat.le_of_lt hl) (by decide))
/-- isinstance(x, T) of a datum -/
def pyTy : PyData → String
  | .none => "NoneType"
  | .bool _ => "bool"
  | .int _ => "int"
  | .str _ => "str"
  | .list _ => "list"
  | .tuple _ => "tuple"
  | .dict _ => "dict"
theorem Rp.ty {K : PySem.W.Frag} {G H : Hp} {v : V} {d : PyData} (e : Ex G H) (h : Rp G v d) : TyX K H v (.type (pyTy d)) := by
  cases h with
  | non => exact .base .non
  | bl => exact .base (.bl _)
  | int => exact .base (.int _)
  | str => exact .base (.str _)
  | lst h _ _ => exact .base (.lst (e _ _ h))
  | tup h _ _ => exact .base (.tup (e _ _ h))
theorem ep_isi {T : Str} {Tn : String} {t : Bool} (C : Cok X M F N sc kk) (hm : M.mg "isinstance" = none) (hmT : M.mg T = none) (ha : EP X F Γ a d) (hT : bootBuiltins T = some (.type Tn)) (hb : kitB (pyTy d) Tn = some t)
    (hg : sc.names.lookup ("isinstance" : Str) = some .globalImplicit) (hg2 : sc.names.lookup T = some .globalImplicit) (pl : plainE a = true := by rfl) (hn : T ≠ "__name__" := by decide) (hd : (T == ("__debug__" : Str)) = false := by decide) :
    EP X F Γ (.Call (.Name "isinstance" p) [a, .Name T p2] [] pos) (.bool t) := fun σ G H Fs E Q q => by
  refine ⟨_, pe_callB call_isi (gl_of C hg) (C.mgn hm) (by decide +kernel) (pa_cons pe_w (pa_cons (pe_bltn (v := .ty Tn) (gl_of C hg2) (C.mgn hmT) hT rfl hn hd) pa_nil) (star_plain pl _ _)) (he := star_plain pl _ _), ?_⟩
  refine ha σ G H Fs E _ fun v G1 H1 w1 r1 => ?_
  exact ⟨v, .ty Tn, .type (pyTy d), .type Tn, t, rfl, .ty Tn, r1.ty w1.s, kit_ty hb, q _ _ _ w1 .bl⟩
theorem bt_int : bootBuiltins "int" = some (.type "int") := by decide +kernel
theorem bt_bool : bootBuiltins "bool" = some (.type "bool") := by decide +kernel
theorem bt_list : bootBuiltins "list" = some (.type "list") := by decide +kernel
theorem bt_tuple : bootBuiltins "tuple" = some (.type "tuple") := by decide +kernel
theorem bt_str : bootBuiltins "str" = some (.type "str") := by decide +kernel
def dInt : PyData → Bool
  | .int _ => true
  | .bool _ => true
  | _ => false
def dBool : PyData → Bool
  | .bool _ => true
  | _ => false
def dLst : PyData → Bool
  | .list _ => true
  | _ => false
def dTup : PyData → Bool
  | .tuple _ => true
  | _ => false
def dStr : PyData → Bool
  | .str _ => true
  | _ => false
theorem ep_is_int (C : Cok X M F N sc kk) (hm : M.mg "isinstance" = none) (hmT : M.mg "int" = none) (ha : EP X F Γ a d) (hg : sc.names.lookup ("isinstance" : Str) = some .globalImplicit) (hg2 : sc.names.lookup ("int" : Str) = some .globalImplicit) (pl : plainE a = true) :
    EP X F Γ (.Call (.Name "isinstance" p) [a, .Name "int" p2] [] pos) (.bool (dInt d)) :=
  ep_isi C hm hmT ha bt_int (by cases d <;> (dsimp only [pyTy, dInt, dBool, dLst, dTup, dStr]; decide +kernel)) hg hg2 pl (by decide +kernel) (by decide +kernel)
theorem ep_is_bool (C : Cok X M F N sc kk) (hm : M.mg "isinstance" = none) (hmT : M.mg "bool" = none) (ha : EP X F Γ a d) (hg : sc.names.lookup ("isinstance" : Str) = some .globalImplicit) (hg2 : sc.names.lookup ("bool" : Str) = some .globalImplicit) (pl : plainE a = true) :
    EP X F Γ (.Call (.Name "isinstance" p) [a, .Name "bool" p2] [] pos) (.bool (dBool d)) :=
  ep_isi C hm hmT ha bt_bool (by cases d <;> (dsimp only [pyTy, dInt, dBool, dLst, dTup, dStr]; decide +kernel)) hg hg2 pl (by decide +kernel) (by decide +kernel)
theorem ep_is_list (C : Cok X M F N sc kk) (hm : M.mg "isinstance" = none) (hmT : M.mg "list" = none) (ha : EP X F Γ a d) (hg : sc.names.lookup ("isinstance" : Str) = some .globalImplicit) (hg2 : sc.names.lookup ("list" : Str) = some .globalImplicit) (pl : plainE a = true) :
    EP X F Γ (.Call (.Name "isinstance" p) [a, .Name "list" p2] [] pos) (.bool (dLst d)) :=
  ep_isi C hm hmT ha bt_list (by cases d <;> (dsimp only [pyTy, dInt, dBool, dLst, dTup, dStr]; decide +kernel)) hg hg2 pl (by decide +kernel) (by decide +kernel)
theorem ep_is_tuple (C : Cok X M F N sc kk) (hm : M.mg "isinstance" = none) (hmT : M.mg "tuple" = none) (ha : EP X F Γ a d) (hg : sc.names.lookup ("isinstance" : Str) = some .globalImplicit) (hg2 : sc.names.lookup ("tuple" : Str) = some .globalImplicit) (pl : plainE a = true) :
    EP X F Γ (.Call (.Name "isinstance" p) [a, .Name "tuple" p2] [] pos) (.bool (dTup d)) :=
  ep_isi C hm hmT ha bt_tuple (by cases d <;> (dsimp only [pyTy, dInt, dBool, dLst, dTup, dStr]; decide +kernel)) hg hg2 pl (by decide +kernel) (by decide +kernel)
theorem ep_is_str (C : Cok X M F N sc kk) (hm : M.mg "isinstance" = none) (hmT : M.mg "str" = none) (ha : EP X F Γ a d) (hg : sc.names.lookup ("isinstance" : Str) = some .globalImplicit) (hg2 : sc.names.lookup ("str" : Str) = some .globalImplicit) (pl : plainE a = true) :
    EP X F Γ (.Call (.Name "isinstance" p) [a, .Name "str" p2] [] pos) (.bool (dStr d)) :=
  ep_isi C hm hmT ha bt_str (by cases d <;> (dsimp only [pyTy, dInt, dBool, dLst, dTup, dStr]; decide +kernel)) hg hg2 pl (by decide +kernel) (by decide +kernel)
theorem FnA.mk' {M : Md} {k : Nat} {x : Str} {R : List Ar → PyData → Prop} {f : Addr} {fd : FuncData} {ps : List Str} (h : FnOk M.P M.w M.K M.mg M.base (L2.CX M.P M.w) k f fd ps (spP M.K R)) (h1 : M.mg x = some (.ref f)) (h2 : PySem.W.keepIn M.K (.ref f) = true) (h3 : Binds M.K fd ps []) : FnA M k x R := ⟨f, fd, ps, h, h1, h2, h3⟩
end
end Rn

namespace Rn
open PySem PySem.Spec PyProof.Rows L2

/-! ## data without truth values: == is = -/
def Nd : Nat → PyData → Prop
  | _, .none => True
  | _, .int _ => True
  | _, .str x => PyData.canLay0 (.str x) = true
  | n + 1, .list ds => ∀ d ∈ ds, Nd n d
  | n + 1, .tuple ds => ∀ d ∈ ds, Nd n d
  | _, _ => False
theorem nd_int {n : Nat} {i : Int} : Nd n (.int i) := by cases n <;> trivial
theorem nd_none {n : Nat} : Nd n .none := by cases n <;> trivial
theorem nd_str {n : Nat} {x : Str} (h : PyData.canLay0 (.str x) = true) : Nd n (.str x) := by cases n <;> exact h
theorem nd_lst {n : Nat} {ds : List PyData} (h : ∀ d ∈ ds, Nd n d) : Nd (n + 1) (.list ds) := h
theorem nd_tup {n : Nat} {ds : List PyData} (h : ∀ d ∈ ds, Nd n d) : Nd (n + 1) (.tuple ds) := h
theorem nd_lmap {n : Nat} {α : Type} {f : α → PyData} {xs : List α} (h : ∀ x, Nd n (f x)) : Nd (n + 1) (.list (xs.map f)) := fun d hd => by
  obtain ⟨x, _, rfl⟩ := List.mem_map.mp hd; exact h x
theorem nd_tmap {n : Nat} {α : Type} {f : α → PyData} {xs : List α} (h : ∀ x, Nd n (f x)) : Nd (n + 1) (.tuple (xs.map f)) := nd_lmap (n := n) h
theorem nd_nil {n : Nat} : ∀ d ∈ ([] : List PyData), Nd n d := fun _ h => nomatch h
theorem nd_cons {n : Nat} {d : PyData} {ds : List PyData} (h : Nd n d) (hr : ∀ d ∈ ds, Nd n d) : ∀ e ∈ d :: ds, Nd n e := fun e he => by
  rcases List.mem_cons.mp he with z | z
  · rw [z]; exact h
  · exact hr e z
theorem all_lay : ∀ {ds : List PyData}, (∀ d ∈ ds, d.canLay0 = true) → PyData.canLayAll0 ds = true
  | [], _ => by rw [PyData.canLayAll0]
  | d :: ds, h => by rw [PyData.canLayAll0, h d List.mem_cons_self, all_lay fun e he => h e (List.mem_cons_of_mem _ he)]; rfl
theorem all_depth {n : Nat} : ∀ {ds : List PyData}, (∀ d ∈ ds, d.depth ≤ n) → PyData.depthAll ds ≤ n
  | [], _ => by rw [PyData.depthAll]; exact Nat.zero_le _
  | d :: ds, h => by
    rw [PyData.depthAll]
    exact Nat.max_le.mpr ⟨h d List.mem_cons_self, all_depth fun e he => h e (List.mem_cons_of_mem _ he)⟩
theorem nd_lay : ∀ {n : Nat} {d : PyData}, Nd n d → d.canLay0 = true ∧ d.depth ≤ n
  | n, .none, _ => ⟨by rw [PyData.canLay0], by rw [PyData.depth]; exact Nat.zero_le _⟩
  | n, .bool _, h => by cases n <;> exact h.elim
  | n, .int _, _ => ⟨by rw [PyData.canLay0], by rw [PyData.depth]; exact Nat.zero_le _⟩
  | n, .str _, h => ⟨by cases n <;> exact h, by rw [PyData.depth]; exact Nat.zero_le _⟩
  | 0, .list _, h => h.elim
  | n + 1, .list ds, h => ⟨by rw [PyData.canLay0]; exact all_lay fun d hd => (nd_lay (h d hd)).1, by rw [PyData.depth]; exact Nat.succ_le_succ (all_depth fun d hd => (nd_lay (h d hd)).2)⟩
  | 0, .tuple _, h => h.elim
  | n + 1, .tuple ds, h => ⟨by rw [PyData.canLay0]; exact all_lay fun d hd => (nd_lay (h d hd)).1, by rw [PyData.depth]; exact Nat.succ_le_succ (all_depth fun d hd => (nd_lay (h d hd)).2)⟩
  | n, .dict _, h => by cases n <;> exact h.elim
theorem nd_shaped {n : Nat} {d : PyData} (h : Nd n d) (hn : n ≤ 64) : SeqAt.shaped d = true := by
  unfold SeqAt.shaped
  rw [(nd_lay h).1, Bool.true_and, decide_eq_true_eq]
  exact Nat.le_trans (nd_lay h).2 hn
mutual
theorem nd_eqv : ∀ {n m : Nat} (d e : PyData), Nd n d → Nd m e → (PyData.eqv d e = true ↔ d = e)
  | n, m, .none, e, _, he => by cases e <;> simp [PyData.eqv]
  | n, m, .bool _, e, hd, _ => by cases n <;> exact hd.elim
  | n, m, .int i, .bool _, _, he => by cases m <;> exact he.elim
  | n, m, .int i, .int j, _, _ => by simp [PyData.eqv]
  | n, m, .int i, .none, _, _ => by simp [PyData.eqv]
  | n, m, .int i, .str _, _, _ => by simp [PyData.eqv]
  | n, m, .int i, .list _, _, _ => by simp [PyData.eqv]
  | n, m, .int i, .tuple _, _, _ => by simp [PyData.eqv]
  | n, m, .int i, .dict _, _, _ => by simp [PyData.eqv]
  | n, m, .str x, e, _, he => by cases e <;> simp [PyData.eqv]
  | n + 1, m + 1, .list xs, .list ys, hd, he => by
    rw [PyData.eqv, nd_eqvs (n := n) (m := m) xs ys hd he]; simp
  | 0, m, .list xs, e, hd, _ => hd.elim
  | n, 0, .list xs, .list ys, _, he => he.elim
  | n, m, .list xs, .none, _, _ => by simp [PyData.eqv]
  | n, m, .list xs, .bool _, _, _ => by simp [PyData.eqv]
  | n, m, .list xs, .int _, _, _ => by simp [PyData.eqv]
  | n, m, .list xs, .str _, _, _ => by simp [PyData.eqv]
  | n, m, .list xs, .tuple _, _, _ => by simp [PyData.eqv]
  | n, m, .list xs, .dict _, _, _ => by simp [PyData.eqv]
  | n + 1, m + 1, .tuple xs, .tuple ys, hd, he => by
    rw [PyData.eqv, nd_eqvs (n := n) (m := m) xs ys hd he]; simp
  | 0, m, .tuple xs, e, hd, _ => hd.elim
  | n, 0, .tuple xs, .tuple ys, _, he => he.elim
  | n, m, .tuple xs, .none, _, _ => by simp [PyData.eqv]
  | n, m, .tuple xs, .bool _, _, _ => by simp [PyData.eqv]
  | n, m, .tuple xs, .int _, _, _ => by simp [PyData.eqv]
  | n, m, .tuple xs, .str _, _, _ => by simp [PyData.eqv]
  | n, m, .tuple xs, .list _, _, _ => by simp [PyData.eqv]
  | n, m, .tuple xs, .dict _, _, _ => by simp [PyData.eqv]
  | n, m, .dict _, e, hd, _ => by cases n <;> exact hd.elim
theorem nd_eqvs : ∀ {n m : Nat} (xs ys : List PyData), (∀ d ∈ xs, Nd n d) → (∀ d ∈ ys, Nd m d) → (PyData.eqvAll xs ys = true ↔ xs = ys)
  | _, _, [], [], _, _ => by simp [PyData.eqvAll]
  | _, _, [], _ :: _, _, _ => by simp [PyData.eqvAll]
  | _, _, _ :: _, [], _, _ => by simp [PyData.eqvAll]
  | n, m, x :: xs, y :: ys, hx, hy => by
    rw [PyData.eqvAll, Bool.and_eq_true, nd_eqv x y (hx x List.mem_cons_self) (hy y List.mem_cons_self), nd_eqvs xs ys (fun d hd => hx d (List.mem_cons_of_mem _ hd)) (fun d hd => hy d (List.mem_cons_of_mem _ hd))]
    simp
end
noncomputable def eqD (d e : PyData) : Bool := @decide (d = e) (Classical.propDecidable (d = e))
theorem eqD_iff {d e : PyData} : eqD d e = true ↔ d = e := by unfold eqD; exact @decide_eq_true_iff _ (Classical.propDecidable (d = e))
theorem eqD_not {d e : PyData} : eqD d e = false ↔ d ≠ e := by unfold eqD; exact @decide_eq_false_iff_not _ (Classical.propDecidable (d = e))
theorem eqD_rfl {d : PyData} : eqD d d = true := eqD_iff.mpr rfl
theorem nd_eq {n m : Nat} {d e : PyData} (h1 : Nd n d) (h2 : Nd m e) : PyData.eqv d e = eqD d e := by
  have := nd_eqv d e h1 h2
  by_cases h : d = e
  · rw [this.mpr h, h, eqD_rfl]
  · rw [eqD_not.mpr h]
    cases q : PyData.eqv d e with
    | false => rfl
    | true => exact absurd (this.mp q) h
section
variable {X : Cx} {M : Md} {F : Fr} {N : List Str} {sc scope : Scope} {kk : Nat} {Γ : List Kd} {e a b c elt src : Expr} {es ifs : List Expr} {rest body : List Stmt} {st : Stmt} {D : Ends} {σ : L2.St} {G H : Hp} {Fs : Nat → Addr → Prop} {d da db d1 d2 : PyData} {ds : List PyData} {p pos px py : Pos} {x y : Str} {i j : Nat} {k k2 : Kd}
theorem do_eqN {n m : Nat} (C : Cok X M F N sc kk) (h1 : Nd n da) (h2 : Nd m db) (hn : n ≤ 64) (hm : m ≤ 64) : DOp X (compareOp .Eq) da db (.bool (eqD da db)) := by
  rw [← nd_eq h1 h2]; exact do_eqD C.room.units (nd_shaped h1 hn) (nd_shaped h2 hm)
theorem do_neN {n m : Nat} (C : Cok X M F N sc kk) (h1 : Nd n da) (h2 : Nd m db) (hn : n ≤ 64) (hm : m ≤ 64) : DOp X (compareOp .NotEq) da db (.bool (!eqD da db)) := by
  rw [← nd_eq h1 h2]; exact do_neD C.room.units (nd_shaped h1 hn) (nd_shaped h2 hm)
/-- lists and tuples joined, as data -/
theorem do_cat {da db : List PyData} (hl : da.length + db.length ≤ cap) : DOp X (binaryOp .Add) (.list da) (.list db) (.list (da ++ db)) := fun G H x y s rx ry Q q => by
  obtain ⟨p, vs, rfl, h1, hc, r1⟩ := rx.lst_inv
  obtain ⟨p2, vs2, rfl, h2, hc2, r2⟩ := ry.lst_inv
  refine ⟨_, op_cat, p, p2, vs, vs2, rfl, rfl, s _ _ h1, s _ _ h2, by rw [r1.len, r2.len]; exact cap_le hl, fun z hz => ?_⟩
  exact q _ _ _ (.new s hz) (.lst upd_same (by rw [List.length_append]; exact hl) ((r1.append r2).mono (.new (s.none hz))))
theorem ep_setTwo {Γ' : List Kd} {d : PyData} (C : Cok X M F N sc kk) (B : Bok X) (E : Env F G H σ Γ Fs) (hx : Sel N Γ x i k) (hd : k.dry = true) (hl : Loc sc x) (hy : Sel N Γ y j k2) (hd2 : k2.dry = true) (hl2 : Loc sc y) (hij : i ≠ j) (h : EP X F Γ e d) (hd' : d = .tuple [d1, d2]) {u : Nat} {pt : Pos} (hc : noComp e = true)
    (hΓ : (Γ.set i (.val d1)).set j (.val d2) = Γ') (q : ∀ σ' G' H', Env F G' H' σ' Γ' Fs → wSs X rest D σ' H') (hst : swappedStores [.Tuple [.Name x px, .Name y py] u pt] e X.env = pure none) (hsw : swapsWithSole [.Tuple [.Name x px, .Name y py] u pt] e pos.line X.env = pure false) :
    wSs X (.Assign [.Tuple [.Name x px, .Name y py] u pt] e pos :: rest) D σ H := by
  subst hΓ hd'
  refine ws_cons ⟨_, ps_asg pe_w (pg_tup C.calm (pgs_cons (pg_nm C B hx.n hl) (pgs_cons (pg_nm C B hy.n hl2) pgs_nil))) hsw hst, ?_⟩
  refine h σ G H Fs E _ fun v G1 H1 w1 r1 => ?_
  obtain ⟨a, vs, rfl, h1, hc, r1⟩ := r1.tup_inv
  cases r1 with
  | cons ra r2 =>
    cases r2 with
    | cons rb r3 =>
      cases r3
      refine ⟨a, _, rfl, .inl (.inl (w1.s _ _ h1)), rfl, _, _, rfl, _, [], rfl, rfl, ?_⟩
      have E1 := (E.grow w1).putD hx.k hd (kat_val ra)
      exact q _ G1 H1 (E1.putD (by rw [List.getElem?_set_ne hij]; exact hy.k) hd2 (kat_val rb))
theorem tp_inI {z : Int} {ns : List Int} (ha : EP X F Γ a (.int z)) (hb : LP X F Γ b (ns.map .int)) (hm : behindInMarks .In b = false) : TP_ X F Γ (.Compare a [.In] [b] pos) (decide (z ∈ ns)) := fun σ G H Fs E Q q => by
  refine ⟨_, pt_cmpR op_in_seq pe_w pe_w hm, ?_⟩
  refine ha σ G H Fs E _ fun x G1 H1 w1 r1 => hb σ G1 H1 Fs (E.grow w1) _ fun p vs G2 H2 w2 h2 hc2 r2 => ?_
  obtain rfl := r1.int_inv
  obtain rfl := r2.ints_inv
  refine ⟨p, _, rfl, .inl (.inl (.inl h2)), rfl, flat_ints, ?_⟩
  rw [if_neg Bool.false_ne_true, inV_ints]
  exact ⟨_, rfl, q _ _ (w1.trans w2)⟩
theorem tp_notInI {z : Int} {ns : List Int} (ha : EP X F Γ a (.int z)) (hb : LP X F Γ b (ns.map .int)) (hm : behindInMarks .NotIn b = false) : TP_ X F Γ (.Compare a [.NotIn] [b] pos) (!decide (z ∈ ns)) := fun σ G H Fs E Q q => by
  refine ⟨_, pt_cmpR op_notIn_seq pe_w pe_w hm, ?_⟩
  refine ha σ G H Fs E _ fun x G1 H1 w1 r1 => hb σ G1 H1 Fs (E.grow w1) _ fun p vs G2 H2 w2 h2 hc2 r2 => ?_
  obtain rfl := r1.int_inv
  obtain rfl := r2.ints_inv
  refine ⟨p, _, rfl, .inl (.inl (.inl h2)), rfl, flat_ints, ?_⟩
  rw [if_pos rfl, inV_ints]
  exact ⟨_, rfl, q _ _ (w1.trans w2)⟩
end
end Rn

namespace Rn
open PySem PySem.Spec PyProof.Rows L2

/-! ## t * 1 is t itself -/
theorem tup_mul_one (l : Addr) (its : Array Value) (n : Nat) (dd : Option Addr) (sl : Array (Option Value)) (u : Tok) :
    Meets (Builtin.«tuple.__mul__» ⟨[.ref l, .int 1 u], []⟩) (fun _ R s => s.heap.get? l = some { cls := .type "tuple", dict := dd, data := .seq its n, slots := sl } ∧ R (.ok (.ret (Value.ref l))) s) :=
  .of_wp fun prog w A R s h => by
    obtain ⟨hp, g, d, tk, os⟩ := s; obtain ⟨hl, h⟩ := h
    have f1 := AutoSeq1.idx_int
    have y1 : (its.isEmpty || (1 : Int) == 1) = true := by simp
    wp_walk using wpAny_loadPart' hl
    repeat (first
      | (refine wpAny_ite_false (decide_eq_false (by decide)) ?_; wp_walk using wpAny_loadPart' hl)
      | (refine wpAny_ite_true (decide_eq_true y1) ?_; wp_walk using wpAny_loadPart' hl))
    exact ⟨_, rfl, h⟩
section
variable {X : Cx}
theorem op_repT1 : OpR X (binaryOp .Mult) (fun x y H Q => ∃ l xs, x = .ref l ∧ y = .int 1 ∧ SqT X.K H l xs ∧ xs ≠ [] ∧ Q (.ref l) H) := by
  intro pins s σ H x y v u Q I rx ry h
  obtain ⟨l, xs, rfl, rfl, hT, hne, q⟩ := h
  cases rx
  obtain ⟨t, rfl⟩ := ry
  obtain ⟨its, r, ⟨⟨cls, dd, data, sl⟩, ho, hc, n, hd⟩, hs⟩ := I.tuple hT
  simp only at hc hd
  subst hc hd
  refine wpAny_binaryOp_repeat_ref (T := "tuple") (U := "int") (by decide) ⟨_, ho, rfl⟩ (fun s' => typeIs_int s' 1 t) noFill_tuple_mul F.fills_int_mul F.slot_int_rmul repeat_tuple F.slot_int_index.lookup
    (call_meets F.slot_int_rmul (typeIs_int s 1 t) F.entry_int_rmul (F.args_int_rmul_2 _ _) (int_rmul_tuple 1 t l its.toArray n dd sl)
      ⟨ho, rfl, ⟨_, ho, rfl⟩, call_meets F.slot_tuple_mul ⟨_, ho, rfl⟩ F.entry_tuple_mul (F.args_tuple_mul_2 _ _) (tup_mul_one l its.toArray n dd sl t) ⟨ho, ?_⟩⟩)
  exact ⟨.ref l, H, I.tok _, rfl, q⟩
end
theorem RpL.flat {G : Hp} {vs : List V} {ds : List PyData} (h : RpL G vs ds) : ∀ n : Nat, RpL G (List.replicate n vs).flatten (List.replicate n ds).flatten
  | 0 => .nil
  | n + 1 => by rw [List.replicate_succ, List.replicate_succ, List.flatten_cons, List.flatten_cons]; exact h.append (h.flat n)
theorem flat_len {α : Type} {xs : List α} : ∀ n : Nat, (List.replicate n xs).flatten.length = n * xs.length
  | 0 => by simp
  | n + 1 => by rw [List.replicate_succ, List.flatten_cons, List.length_append, flat_len n, Nat.succ_mul]; omega
theorem flat_one {α : Type} (x : α) : ∀ n : Nat, (List.replicate n [x]).flatten = List.replicate n x
  | 0 => rfl
  | n + 1 => by rw [List.replicate_succ, List.flatten_cons, flat_one x n]; rfl
section
variable {X : Cx} {M : Md} {F : Fr} {N : List Str} {sc scope : Scope} {kk : Nat} {Γ : List Kd} {e a b c elt src : Expr} {es ifs : List Expr} {rest body : List Stmt} {st : Stmt} {D : Ends} {σ : L2.St} {G H : Hp} {Fs : Nat → Addr → Prop} {d da db d1 d2 : PyData} {ds : List PyData} {p pos px py : Pos} {x y : Str} {i j : Nat} {k k2 : Kd}
/-- t * n, 1 <= n -/
theorem do_repT {n : Int} (h0 : ds ≠ []) (h1 : 1 ≤ n) (h2 : n ≤ 1000) (hl : ds.length ≤ 100) : DOp X (binaryOp .Mult) (.tuple ds) (.int n) (.tuple (List.replicate n.toNat ds).flatten) := fun G H x y s rx ry Q q => by
  obtain ⟨p, vs, rfl, h3, hc, r1⟩ := rx.tup_inv
  obtain rfl := ry.int_inv
  have hv : vs ≠ [] := fun z => h0 (by subst z; cases r1; rfl)
  by_cases e : n = 1
  · subst e
    refine ⟨_, op_repT1, p, vs, rfl, rfl, .inl (.inl (s _ _ h3)), hv, q _ _ _ (.refl s) ?_⟩
    have e1 : (List.replicate (1 : Int).toNat ds).flatten = ds := by show ds ++ [] = ds; rw [List.append_nil]
    rw [e1]
    exact .tup h3 hc r1
  · refine ⟨_, op_repT, p, n, vs, rfl, rfl, .inl (.inl (s _ _ h3)), hv, by omega, h2, by rw [r1.len]; omega, fun z hz => ?_⟩
    refine q _ _ _ (.new s hz) (.tup upd_same ?_ ((r1.flat n.toNat).mono (.new (s.none hz))))
    rw [flat_len]
    have a1 : n.toNat * ds.length ≤ 1000 * 100 := Nat.mul_le_mul (by omega) hl
    unfold cap; omega
theorem do_rep0 {z n : Int} (h1 : 1 ≤ n) (h2 : n ≤ 1000) : DOp X (binaryOp .Mult) (.tuple [.int z]) (.int n) (.tuple ((List.replicate n.toNat z).map .int)) := by
  have h := do_repT (X := X) (ds := [.int z]) (n := n) (by simp) h1 h2 (by simp)
  rw [flat_one] at h
  rw [List.map_replicate]
  exact h
theorem lp_lstI {ns : List Int} (h : AP_ X F Γ es ds) (hi : IntsOf ds ns) (hl : ds.length ≤ cap) : LP X F Γ (.List es pos) (ns.map .int) := by
  rw [← hi.eq]; exact NP.lp (np_lst h hl)
abbrev tupI (xs : List Int) : PyData := .tuple (xs.map .int)
/-- an item of a list of values -/
theorem ep_ixV {xs : List (List Int)} {j : Int} (ha : LP X F Γ a (xs.map tupI)) (hb : EP X F Γ b (.int j)) (h0 : 0 ≤ j) (h1 : j < xs.length) (hs : PlainIx b) : EP X F Γ (.Subscript a b pos) (tupI (xs.getD j.toNat [])) := ep_ixM ha hb h0 h1 hs
abbrev parI (p : List Int × List Int) : PyData := .tuple [.list (p.1.map .int), tupI p.2]
/-- an item of a list of parcels -/
theorem ep_ixQ {xs : List (List Int × List Int)} {j : Int} (ha : LP X F Γ a (xs.map parI)) (hb : EP X F Γ b (.int j)) (h0 : 0 ≤ j) (h1 : j < xs.length) (hs : PlainIx b) : EP X F Γ (.Subscript a b pos) (parI (xs.getD j.toNat ([], []))) := ep_ixM ha hb h0 h1 hs
/-- a list as a test -/
theorem tp_lst (ha : LP X F Γ e ds) (he : ∀ whole, isTrue e X.env whole = (do let v ← whole; standAt e.pos; holding [v] (truthy v))) : TP_ X F Γ e (!ds.isEmpty) := fun σ G H Fs E Q q => by
  refine ⟨_, pt_truth pe_w he, ?_⟩
  refine ha σ G H Fs E _ fun p vs G1 H1 w1 h1 hc r1 => ⟨_, .inl ⟨vs, .inl (.inl h1), ?_⟩, q _ _ w1⟩
  cases r1 <;> rfl
/-- a, b = (a list of two) -/
theorem ep_setTwoL {Γ' : List Kd} {d : PyData} (C : Cok X M F N sc kk) (B : Bok X) (E : Env F G H σ Γ Fs) (hx : Sel N Γ x i k) (hd : k.dry = true) (hl : Loc sc x) (hy : Sel N Γ y j k2) (hd2 : k2.dry = true) (hl2 : Loc sc y) (hij : i ≠ j) (h : EP X F Γ e d) (hd' : d = .list [d1, d2]) {u : Nat} {pt : Pos} (hc : noComp e = true)
    (hΓ : (Γ.set i (.val d1)).set j (.val d2) = Γ') (q : ∀ σ' G' H', Env F G' H' σ' Γ' Fs → wSs X rest D σ' H') (hst : swappedStores [.Tuple [.Name x px, .Name y py] u pt] e X.env = pure none) (hsw : swapsWithSole [.Tuple [.Name x px, .Name y py] u pt] e pos.line X.env = pure false) :
    wSs X (.Assign [.Tuple [.Name x px, .Name y py] u pt] e pos :: rest) D σ H := by
  subst hΓ hd'
  refine ws_cons ⟨_, ps_asg pe_w (pg_lst C.calm (pgs_cons (pg_nm C B hx.n hl) (pgs_cons (pg_nm C B hy.n hl2) pgs_nil))) hsw hst, ?_⟩
  refine h σ G H Fs E _ fun v G1 H1 w1 r1 => ?_
  obtain ⟨a, vs, rfl, h1, hc, r1⟩ := r1.lst_inv
  cases r1 with
  | cons ra r2 =>
    cases r2 with
    | cons rb r3 =>
      cases r3
      refine ⟨a, _, rfl, .inl (.inl (w1.s _ _ h1)), rfl, _, _, rfl, _, [], rfl, rfl, ?_⟩
      have E1 := (E.grow w1).putD hx.k hd (kat_val ra)
      exact q _ G1 H1 (E1.putD (by rw [List.getElem?_set_ne hij]; exact hy.k) hd2 (kat_val rb))
/-- for x in (a list that is an argument) -/
theorem ws_forA {α : Type} {f : α → PyData} {xs : List α} {u : Str} {pu : Pos} {iu : Nat} (Rt : Fr → VK) (J : Nat → List Kd → Prop) (JB : List Kd → Prop) (C : Cok X M F N sc kk) (B : Bok X) (E : Env F G H σ Γ Fs) (hx : N[i]? = some x) (hl : Loc sc x) (hs : Sel N Γ u iu (.arg (.lst (xs.map f)))) (hu : Vis sc u) (hR : RtMono Rt) (hD : D.rt = Rt F)
    (hJ : ∀ j Γ', J j Γ' → ∃ k, Γ'[i]? = some k ∧ k.dry = true) (h0 : J 0 Γ)
    (hb : ∀ G1, Cok X M (F.pin G1) N sc kk → ∀ j y Γ', xs[j]? = some y → J j Γ' → ∀ σ G H Fs, Env (F.pin G1) G H σ (Γ'.set i (.val (f y))) Fs → wSs X body (loopE (F.pin G1) Rt (J (j + 1)) JB) σ H)
    (he : ∀ Γ', J xs.length Γ' ∨ JB Γ' → ∀ σ G H Fs, Env F G H σ Γ' Fs → wSs X rest D σ H) (hd : (u == ("__debug__" : Str)) = false) (hcd : (u == ("__classdict__" : Str)) = false) : wSs X (.For (.Name x px) (.Name u pu) body [] pos :: rest) D σ H := by
  refine ws_cons ⟨_, ps_for (passB B) C.calm (pi_list pe_w) (pg_nm C B hx hl) pss_w (fold_no rfl X.env), ?_⟩
  obtain ⟨_, v, h1, a, vs, rfl, h3, hc, r1⟩ := E.sl iu _ hs.k
  refine w_name C hs hu h1 ?_ hd hcd
  refine ⟨a, rfl, ⟨vs, .inl (.inl (E.bh _ _ h3))⟩, ?_⟩
  have el : vs.length = xs.length := by rw [r1.len, List.length_map]
  refine for_list (xs := vs) (fun j σ H' => ∃ G' Γ Fs, Env (F.pin G) G' H' σ Γ Fs ∧ J j Γ) ⟨G, Γ, Fs, E.pin E (.refl G), h0⟩ (fun j σ' H' _ ⟨G', Γ', Fs', E', _⟩ => .inl (.inl (E'.bh _ _ h3))) (fun j v σ' H' hv ⟨G', Γ', Fs', E', hj⟩ => ?_) fun σ' H' ⟨G', Γ', Fs', E', hj⟩ => ?_
  · obtain ⟨dv, hdv, rv⟩ := r1.get' hv
    rw [List.getElem?_map] at hdv
    cases hy : xs[j]? with
    | none => rw [hy] at hdv; cases hdv
    | some y =>
      rw [hy] at hdv
      obtain rfl := Option.some.inj hdv
      obtain ⟨k, hk, hd⟩ := hJ j Γ' hj
      refine wSs_mono (hb G C.pin j y Γ' hy hj _ G' H' Fs' (E'.putD hk hd (kat_val (rv.mono E'.g0)))) (fun _ _ z => z) (fun v H z => ?_) (fun σ2 H2 ⟨G2, Γ2, Fs2, E2, z⟩ => he Γ2 (.inr z) σ2 G2 H2 Fs2 (E.unpin E2)) (fun _ _ z => z)
      show D.rt v H
      rw [hD]
      exact hR F G E.g0 E.go v H z
  · rw [el] at hj
    exact he Γ' (.inl hj) σ' G' H' Fs' (E.unpin E')
/-- [elt for x, y in zip(s, t)] of two tuples of one length -/
theorem cp_zip {α β : Type} {f : α → PyData} {g : β → PyData} {h : α → β → Int} {xs : List α} {ys : List β} {s t : Expr} {pz pt : Pos} {u : Nat} (C : Cok X M F N sc kk) (hm : M.mg "zip" = none) (hx : Sel N Γ x i k) (hd : k.dry = true) (hy : Sel N Γ y j k2) (hd2 : k2.dry = true) (hij : i ≠ j) (hs : EP X F Γ s (.tuple (xs.map f))) (ht : EP X F Γ t (.tuple (ys.map g))) (hlen : xs.length = ys.length)
    (ok : blkC N sc scope [(x, i), (y, j)] = true) (hl : Loc (relS scope sc) x) (hf : (relS scope sc).names.lookup x = some .local ∨ (scope.names.lookup x == some .cell) = true) (hl2 : Loc (relS scope sc) y) (hf2 : (relS scope sc).names.lookup y = some .local ∨ (scope.names.lookup y == some .cell) = true) (hg : sc.names.lookup ("zip" : Str) = some .globalImplicit) (hp1 : plainE s = true) (hp2 : plainE t = true)
    (hE : ∀ z ∈ xs.zip ys, ∀ s H0 C0 cl fp, Cok (Xblk X scope s H0 C0 cl fp) M F N (relS scope sc) kk → EP (Xblk X scope s H0 C0 cl fp) F ((Γ.set i (.val (f z.1))).set j (.val (g z.2))) elt (.int (h z.1 z.2))) :
    CP X F Γ elt (.Tuple [.Name x px, .Name y py] u pt) (.Call (.Name "zip" pz) [s, t] [] pos) [] scope ((List.zipWith h xs ys).map .int) := fun σ G H Fs E Q q => by
  refine ⟨_, gTup X.K 2 (gCons (gName i) (gCons (gName j) gNil)), tSrc X scope [], eSrc X scope elt, [(x, i), (y, j)], RZ.pi_zipA (gl_of C hg) (C.mgn hm) (pa_cons pe_w (pa_cons pe_w pa_nil (star_plain hp2 _ _)) (star_plain hp1 _ _)) (star_plain hp1 _ _) (back_plain (by rw [List.all_cons, hp2]; rfl)), by rw [C.hN, C.hs]; exact blkOk_by ok, fun s H C0 cl fp => ?_, fun s H C0 cl fp => ⟨fun pins s1 σ H5 Q I h => ?_⟩, fun s H C0 cl fp => ⟨fun pins s1 σ H5 Q I h => ?_⟩, ?_⟩
  · have C' := C.blk (scope := scope) (s := s) (H := H) (C0 := C0) (cl := cl) (fp := fp)
    have one : ∀ {x : Str} {i : Nat} {px : Pos}, N[i]? = some x → Loc (relS scope sc) x → ((relS scope sc).names.lookup x = some .local ∨ (scope.names.lookup x == some .cell) = true) → PG (Xblk X scope s H C0 cl fp) (.Name x px) (gName i) := fun hx hl hf => by
      refine pg_name (by rw [C'.hN]; exact C'.nd) (by rw [C'.hN]; exact hx) (by rw [C'.hs]; exact hl) ?_
      rcases hf with z | z
      · exact .inr (by rw [C'.hs]; exact z)
      · exact .inl z
    exact pg_tup C'.calm (pgs_cons (one hx.n hl hf) (pgs_cons (one hy.n hl2 hf2) pgs_nil))
  · obtain ⟨t, p1, p2⟩ := h s H C0 cl fp
    exact p1.run pins s1 σ _ Q I p2
  · exact pe_w.run pins s1 σ _ Q I (h s H C0 cl fp)
  · refine hs σ G H Fs E _ fun v1 G1 H1 w1 r1 => ht σ G1 H1 Fs (E.grow w1) _ fun v2 G2 H2 w2 r2 => ?_
    obtain ⟨a, vs, rfl, h1, hc, r1⟩ := r1.tup_inv
    obtain ⟨b, ws, rfl, h2, hc2, r2⟩ := r2.tup_inv
    have h1 := w2.g _ _ h1
    have r1 := r1.mono w2.g
    have w := w1.trans w2
    have E2 := E.grow w
    refine ⟨a, b, vs, ws, rfl, .inr ⟨.inl (.inl (w2.s _ _ h1)), .inl (.inl (w2.s _ _ h2)), fun D hD => ?_⟩⟩
    have lv : vs.length = xs.length := by rw [r1.len, List.length_map]
    have lw : ws.length = ys.length := by rw [r2.len, List.length_map]
    have lz : (List.zipWith h xs ys).length = xs.length := by rw [List.length_zipWith, ← hlen, Nat.min_self]
    have hcx : xs.length ≤ cap := by rw [List.length_map] at hc; exact hc
    refine ⟨fun n m H' => m = xs.length - n ∧ n ≤ xs.length ∧ ∃ G', Lcs G2 H2 D (((List.zipWith h xs ys).take n).map .int) G' H', ⟨xs.length, rfl, Nat.zero_le _, G2, Lcs.start w2.s hD⟩, fun n m H' ⟨em, hn, G', L⟩ => ?_⟩
    have sa : SqT X.K H' a vs := .inl (.inl (L.w.s _ _ (L.w.g _ _ h1)))
    have sb : SqT X.K H' b ws := .inl (.inl (L.w.s _ _ (L.w.g _ _ h2)))
    by_cases hlt : n < xs.length
    · have g1 : xs[n]? = some xs[n] := List.getElem?_eq_getElem hlt
      have g2 : ys[n]? = some (ys[n]'(hlen ▸ hlt)) := List.getElem?_eq_getElem _
      obtain ⟨va, hva, ra⟩ := r1.get (i := n) (d := f xs[n]) (by rw [List.getElem?_map, g1]; rfl)
      obtain ⟨vb, hvb, rb⟩ := r2.get (i := n) (d := g (ys[n]'(hlen ▸ hlt))) (by rw [List.getElem?_map, g2]; rfl)
      refine .inr ⟨⟨vs, ws, va, vb, sa, sb, hva, hvb⟩, fun H'' => ∃ G'', Lcs G2 H2 D (((List.zipWith h xs ys).take (n + 1)).map .int) G'' H'', fun H'' ⟨G'', L2⟩ => ⟨m - 1, by omega, by omega, hlt, G'', L2⟩, fun v H'' hy' => ?_⟩
      obtain ⟨T, v1, v2, rfl, nT, rfl, f1, f2⟩ := hy'
      obtain rfl : v1 = va := Option.some.inj ((f1 _ sa).symm.trans hva)
      obtain rfl : v2 = vb := Option.some.inj ((f2 _ sb).symm.trans hvb)
      have LT := L.step hD (Grow.raw (o := .tup [v1, v2]) L.w.s nT)
      refine ⟨T, [v1, v2], rfl, .inl (.inl upd_same), rfl, v1, [v2], rfl, v2, [], rfl, rfl, ?_⟩
      have ew : ((wipe σ (List.map (fun x => x.snd) [(x, i), (y, j)])).set i (some v1)).set j (some v2) = (σ.set i (some v1)).set j (some v2) := by
        show ((((σ.set j none).set i none).set i (some v1)).set j (some v2)) = _
        rw [List.set_set, List.set_comm (l := σ) (i := j) (j := i) _ _ (Ne.symm hij), List.set_set]
      rw [ew]
      have ew2 : wipe ((σ.set i (some v1)).set j (some v2)) (List.map (fun x => x.snd) [(x, i), (y, j)]) = wipe σ (List.map (fun x => x.snd) [(x, i), (y, j)]) := by
        show ((((σ.set i (some v1)).set j (some v2)).set j none).set i none) = ((σ.set j none).set i none)
        rw [List.set_set, List.set_comm (l := σ) (i := i) (j := j) _ _ hij, List.set_set]
      refine ⟨ew2, fun s H0 C0 cl fp => ⟨tYes, pts_nil, ?_⟩⟩
      unfold tYes
      dsimp only
      rw [if_pos rfl]
      intro s H0 C0 cl fp
      have E3 : Env F G' _ ((σ.set i (some v1)).set j (some v2)) ((Γ.set i (.val (f xs[n]))).set j (.val (g (ys[n]'(hlen ▸ hlt))))) Fs :=
        ((E2.grow LT.w).putD hx.k hd (kat_val (ra.mono L.w.g))).putD (by rw [List.getElem?_set_ne hij]; exact hy.k) hd2 (kat_val (rb.mono L.w.g))
      have hz : (xs[n], ys[n]'(hlen ▸ hlt)) ∈ xs.zip ys := by
        refine List.mem_of_getElem? (i := n) ?_
        rw [List.getElem?_zip_eq_some]
        exact ⟨g1, g2⟩
      refine hE _ hz s H0 C0 cl fp C.blk _ G' _ Fs E3 _ fun v3 G3 H3 w3 r3 => ?_
      have L3 := LT.step hD w3
      obtain ⟨acc, h3, rs⟩ := L3.l
      refine ⟨acc, h3, ?_, G3, ?_⟩
      · rw [rs.len, List.length_map, List.length_take, lz]
        exact cap_lt (by omega)
      · have e : (((List.zipWith h xs ys).take (n + 1)).map PyData.int) = (((List.zipWith h xs ys).take n).map PyData.int) ++ [.int (h xs[n] (ys[n]'(hlen ▸ hlt)))] := by
          rw [List.take_add_one, List.getElem?_zipWith, g1, g2, List.map_append]; rfl
        rw [e]
        exact L3.push hD h3 r3
    · refine .inl ⟨⟨vs, ws, sa, sb, .inl (by omega)⟩, ?_⟩
      rw [List.take_of_length_le (by rw [lz]; omega)] at L
      obtain ⟨acc, h3, rs⟩ := L.l
      exact q D acc G' H' (w.trans L.w) (w.h.none hD) L.d h3 (by rw [List.length_map, lz]; exact hcx) rs
/-- [elt for x in (a tuple) if ..] -/
theorem cp_tup {α : Type} {f fE : α → PyData} {pT : α → Bool} {xs : List α} (C : Cok X M F N sc kk) (hx : Sel N Γ x i k) (hd : k.dry = true) (hs : EP X F Γ src (.tuple (xs.map f))) (ok : blkC N sc scope [(x, i)] = true) (hl : Loc (relS scope sc) x) (hf : (relS scope sc).names.lookup x = some .local ∨ (scope.names.lookup x == some .cell) = true)
    (hT : ∀ y ∈ xs, ∀ s H0 C0 cl fp, Cok (Xblk X scope s H0 C0 cl fp) M F N (relS scope sc) kk → TsP (Xblk X scope s H0 C0 cl fp) F (Γ.set i (.val (f y))) ifs (pT y)) (hE : ∀ y ∈ xs, pT y = true → ∀ s H0 C0 cl fp, Cok (Xblk X scope s H0 C0 cl fp) M F N (relS scope sc) kk → EP (Xblk X scope s H0 C0 cl fp) F (Γ.set i (.val (f y))) elt (fE y)) :
    CP X F Γ elt (.Name x px) src ifs scope ((xs.filter pT).map fE) := fun σ G H Fs E Q q => by
  refine ⟨_, gName i, tSrc X scope ifs, eSrc X scope elt, [(x, i)], pi_tup pe_w, by rw [C.hN, C.hs]; exact blkOk_by ok, fun s H C0 cl fp => ?_, fun s H C0 cl fp => ⟨fun pins s1 σ H5 Q I h => ?_⟩, fun s H C0 cl fp => ⟨fun pins s1 σ H5 Q I h => ?_⟩, ?_⟩
  · have C' := C.blk (scope := scope) (s := s) (H := H) (C0 := C0) (cl := cl) (fp := fp)
    refine pg_name (by rw [C'.hN]; exact C'.nd) (by rw [C'.hN]; exact hx.n) (by rw [C'.hs]; exact hl) ?_
    rcases hf with z | z
    · exact .inr (by rw [C'.hs]; exact z)
    · exact .inl z
  · obtain ⟨t, p1, p2⟩ := h s H C0 cl fp
    exact p1.run pins s1 σ _ Q I p2
  · exact pe_w.run pins s1 σ _ Q I (h s H C0 cl fp)
  · refine hs σ G H Fs E _ fun v0 G1 H1 w1 r1 => ?_
    obtain ⟨a, vs, rfl, h1, hc, r1⟩ := r1.tup_inv
    refine ⟨a, rfl, ⟨vs, .inl (.inl (w1.s _ _ h1))⟩, fun D hD => ?_⟩
    have E1 := E.grow w1
    refine lc_tup (K := X.K) (a := a) (xs := vs) (fun j H' => ∃ G', Lcs G1 H1 D (((xs.take j).filter pT).map fE) G' H') ⟨G1, Lcs.start w1.s hD⟩ (fun j H' _ ⟨G', L⟩ => .inl (.inl (L.w.s _ _ (L.w.g _ _ h1)))) (fun j v H' hv ⟨G', L⟩ => ?_) fun H' ⟨G', L⟩ => ?_
    · obtain ⟨dv, hdv, rv⟩ := r1.get' hv
      rw [List.getElem?_map] at hdv
      cases hy : xs[j]? with
      | none => rw [hy] at hdv; cases hdv
      | some y =>
        rw [hy] at hdv
        obtain rfl := Option.some.inj hdv
        have hm : y ∈ xs := List.mem_of_getElem? hy
        have hlt : j < xs.length := (List.getElem?_eq_some_iff.mp hy).1
        refine lc_turn (G := G) (H := H) fE pT hx hd E1 hD L (rv.mono L.w.g) ?_ (fun s H0 C0 cl fp => hT y hm s H0 C0 cl fp C.blk) (fun z s H0 C0 cl fp => hE y hm z s H0 C0 cl fp C.blk) (fun z G2 H2 L2 => ⟨G2, ?_⟩) (fun z G2 H2 L2 => ⟨G2, ?_⟩)
        · rw [List.length_map]
          have := List.length_filter_le pT (xs.take j)
          rw [List.length_take] at this
          rw [List.length_map] at hc
          omega
        · rw [take_filter_succ hy, if_pos z, List.map_append]; exact L2
        · rw [take_filter_succ hy, if_neg (by rw [z]; exact Bool.false_ne_true), List.append_nil]; exact L2
    · have el : vs.length = xs.length := by rw [r1.len, List.length_map]
      rw [el, List.take_length] at L
      obtain ⟨ws, h2, r2⟩ := L.l
      refine q D ws G' H' (w1.trans L.w) (w1.h.none hD) L.d h2 ?_ r2
      rw [List.length_map]
      have := List.length_filter_le pT xs
      rw [List.length_map] at hc
      omega
theorem cp_tupI {α : Type} {f : α → PyData} {g : α → Int} {pT : α → Bool} {xs : List α} (C : Cok X M F N sc kk) (hx : Sel N Γ x i k) (hd : k.dry = true) (hs : EP X F Γ src (.tuple (xs.map f))) (ok : blkC N sc scope [(x, i)] = true) (hl : Loc (relS scope sc) x) (hf : (relS scope sc).names.lookup x = some .local ∨ (scope.names.lookup x == some .cell) = true)
    (hT : ∀ y ∈ xs, ∀ s H0 C0 cl fp, Cok (Xblk X scope s H0 C0 cl fp) M F N (relS scope sc) kk → TsP (Xblk X scope s H0 C0 cl fp) F (Γ.set i (.val (f y))) ifs (pT y))
    (hE : ∀ y ∈ xs, pT y = true → ∀ s H0 C0 cl fp, Cok (Xblk X scope s H0 C0 cl fp) M F N (relS scope sc) kk → EP (Xblk X scope s H0 C0 cl fp) F (Γ.set i (.val (f y))) elt (.int (g y))) :
    CP X F Γ elt (.Name x px) src ifs scope (((xs.filter pT).map g).map .int) := by
  have h := cp_tup (px := px) (fE := fun y => .int (g y)) C hx hd hs ok hl hf hT hE
  rw [List.map_map]
  exact h
theorem cp_listV0 {α : Type} {f : α → PyData} {g : α → List Int} {xs : List α} (C : Cok X M F N sc kk) (hx : Sel N Γ x i k) (hd : k.dry = true) (hs : LP X F Γ src (xs.map f)) (ok : blkC N sc scope [(x, i)] = true) (hl : Loc (relS scope sc) x) (hf : (relS scope sc).names.lookup x = some .local ∨ (scope.names.lookup x == some .cell) = true)
    (hE : ∀ y ∈ xs, ∀ s H0 C0 cl fp, Cok (Xblk X scope s H0 C0 cl fp) M F N (relS scope sc) kk → EP (Xblk X scope s H0 C0 cl fp) F (Γ.set i (.val (f y))) elt (tupI (g y))) :
    CP X F Γ elt (.Name x px) src [] scope ((xs.map g).map tupI) := by
  have h := cp_list0 (px := px) (fE := fun y => tupI (g y)) C hx hd hs ok hl hf hE
  rw [List.map_map]
  exact h
theorem cp_rangeV0 {n : Int} {g : Nat → List Int} {pr : Pos} (C : Cok X M F N sc kk) (hm : M.mg "range" = none) (hx : Sel N Γ x i k) (hd : k.dry = true) (hs : EP X F Γ e (.int n)) (hn : n ≤ 100000) (ok : blkC N sc scope [(x, i)] = true) (hl : Loc (relS scope sc) x) (hf : (relS scope sc).names.lookup x = some .local ∨ (scope.names.lookup x == some .cell) = true)
    (hg : sc.names.lookup ("range" : Str) = some .globalImplicit) (hpl : plainE e = true)
    (hE : ∀ j, j < n.toNat → ∀ s H0 C0 cl fp, Cok (Xblk X scope s H0 C0 cl fp) M F N (relS scope sc) kk → EP (Xblk X scope s H0 C0 cl fp) F (Γ.set i (.val (.int (j : Int)))) elt (tupI (g j))) (hn0 : -100000 ≤ n) :
    CP X F Γ elt (.Name x px) (.Call (.Name "range" pr) [e] [] pos) [] scope (((List.range n.toNat).map g).map tupI) := by
  have h := cp_range0 (px := px) (pr := pr) (pos := pos) (fE := fun y => tupI (g y)) C hm hx hd hs hn ok hl hf hg hpl hE hn0
  rw [List.map_map]
  exact h
/-- y = [.. for ..], y read by a comprehension -/
theorem sw_cell {gs : List Comprehension} {py : Pos} {l : Nat} {env : PySem.Env} (hy : env.scope.names.lookup y = some .cell) : swapsWith (.ListComp elt gs scope pos) (some (.Name y py)) l env = pure false := by
  have ky : env.kindOf y = some .cell := hy
  unfold swapsWith
  simp only [ky]
  have z : (some NameKind.cell == some NameKind.local) = false := rfl
  rw [z, Bool.and_false, Bool.false_and, Bool.false_and]
theorem ws_setLcC (C : Cok X M F N sc kk) (B : Bok X) (E : Env F G H σ Γ Fs) {tg : Expr} {pos' : Pos} (hx : Sel N Γ x i k) (hd : k.dry = true) (hl : sc.names.lookup x = some .cell) (h : CP X F Γ elt tg src ifs scope ds) (hs : ∀ x, foldedSetIterable src X.env x = pure x) {Γ' : List Kd} (hΓ : Γ.set i (.val (.list ds)) = Γ') (q : ∀ σ' G' H', Env F G' H' σ' Γ' Fs → wSs X rest D σ' H') :
    wSs X (.Assign [.Name x px] (.ListComp elt [⟨tg, src, ifs, 0⟩] scope pos) pos' :: rest) D σ H := by
  subst hΓ
  refine ws_cons ⟨_, ps_set (by rw [C.hN]; exact C.nd) (by rw [C.hN]; exact hx.n) (C.loc (.inr hl)) pe_w (sw_cell (by rw [C.hs]; exact hl)) (.inl (B.fn x)), ?_⟩
  exact (np_lc C h hs).ep σ G H Fs E _ fun v G1 H1 w1 r1 => q _ G1 H1 ((E.grow w1).putD hx.k hd (kat_val r1))
end
end Rn

namespace Rn
open PySem PySem.Spec PyProof.Rows L2

/-! ## defs that may raise -/
def spX (K : PySem.W.Frag) (R : List Ar → PyData → Prop) (RX : List Ar → Addr → Prop) : Sp := fun vs H Q E => ∃ G ars, Ex G H ∧ ArL K G H vs ars ∧
  ((∃ d, R ars d ∧ ∀ v G' H', Grow G H G' H' → Rp G' v d → Q v H') ∨ (∃ C, RX ars C ∧ ∀ G' H', Grow G H G' H' → E (.ref C) none H'))
structure FnX (M : Md) (k : Nat) (x : Str) (R : List Ar → PyData → Prop) (RX : List Ar → Addr → Prop) : Prop where
  ex : ∃ (f : Addr) (fd : FuncData) (ps : List Str), FnOk M.P M.w M.K M.mg M.base (L2.CX M.P M.w) k f fd ps (spX M.K R RX) ∧ M.mg x = some (.ref f) ∧ PySem.W.keepIn M.K (.ref f) = true ∧ Binds M.K fd ps []
theorem FnX.fn {M : Md} {k : Nat} {x : Str} {R : List Ar → PyData → Prop} {RX : List Ar → Addr → Prop} (h : FnX M k x R RX) : FnA M k x R := by
  obtain ⟨f, fd, ps, h1, h2, h3, h4⟩ := h.ex
  exact ⟨f, fd, ps, h1.imp fun vs H Q E ⟨G, ars, d, e, hr, ha, q⟩ => ⟨G, ars, e, ha, .inl ⟨d, hr, q⟩⟩, h2, h3, h4⟩
theorem FnX.mk' {M : Md} {k : Nat} {x : Str} {R : List Ar → PyData → Prop} {RX : List Ar → Addr → Prop} {f : Addr} {fd : FuncData} {ps : List Str} (h : FnOk M.P M.w M.K M.mg M.base (L2.CX M.P M.w) k f fd ps (spX M.K R RX)) (h1 : M.mg x = some (.ref f)) (h2 : PySem.W.keepIn M.K (.ref f) = true) (h3 : Binds M.K fd ps []) : FnX M k x R RX := ⟨f, fd, ps, h, h1, h2, h3⟩
/-- an own class of errors over ValueError -/
structure ClsX (M : Md) (x : Str) (C : Addr) : Prop where
  gC : M.mg x = some (.ref C)
  xC : PySem.W.excIn M.K C [.type "ValueError", .type "Exception", .type "BaseException", .type "object"] "ValueError.__new__" = true
  kC : PySem.W.keepIn M.K (.ref C) = true
  bC : PySem.W.subIn M.K (.ref C) (.type "BaseException") = some true
  tC : PySem.W.typeIn M.K (.ref C) = some (.type "type")
/-- what is wished of an exception of the class at C: all as it was -/
def xWish (F : Fr) (C : Addr) : WX := fun cls d _ H => cls = .ref C ∧ d = none ∧ ∃ G, Grow F.G0 F.B G H
theorem raise_def {M : Md} {x qual : Str} {st : Stmt} {f : Addr} {fd : FuncData} {N ps : List Str} {k : Nat} {R : List Ar → PyData → Prop} {RX : List Ar → Addr → Prop} (n : Nat) (Fu : Fun M.K x qual st f fd) (S : FnScope N ps (defScope st)) (hlen : ∀ ars d, R ars d → ars.length = ps.length) (hlenX : ∀ ars C, RX ars C → ars.length = ps.length) (hn : N.length = ps.length + n)
    (body : ∀ (X : Cx) (F : Fr) (σ : L2.St) (ars : List Ar) (d : PyData) (Γ : List Kd), Cok X M F N (defScope st) k → Bok X → R ars d → ars.map Ar.kd ++ List.replicate n .un = Γ → Env F F.G0 F.B σ Γ (fun _ _ => False) → wSs X (defBody st) (pEnds F d) σ F.B)
    (bodyX : ∀ (X : Cx) (F : Fr) (σ : L2.St) (ars : List Ar) (C : Addr) (Γ : List Kd), Cok X M F N (defScope st) k → Bok X → Takes X (xWish F C) → RX ars C → ars.map Ar.kd ++ List.replicate n .un = Γ → Env F F.G0 F.B σ Γ (fun _ _ => False) → wSs X (defBody st) { nx := fun _ _ => False, rt := fun _ _ => False } σ F.B) :
    FnOk M.P M.w M.K M.mg M.base (L2.CX M.P M.w) (k + 1) f fd ps (spX M.K R RX) := by
  refine Fu.okX S (fun vs H Q E h => ?_) (fun cdv A outer s H vs Q E hr h => ?_)
  · obtain ⟨G, ars, _, h2, h1⟩ := h
    rw [h2.len]
    rcases h1 with ⟨d, h1, _⟩ | ⟨C, h1, _⟩
    · exact hlen ars d h1
    · exact hlenX ars C h1
  · obtain ⟨G, ars, e, h2, h1⟩ := h
    have hl : ars.length = ps.length := by
      rcases h1 with ⟨d, h1, _⟩ | ⟨C, h1, _⟩
      · exact hlen ars d h1
      · exact hlenX ars C h1
    have En := env_start (M := M) (N := N) (n := n) e h2 (by rw [hl]; exact hn)
    rcases h1 with ⟨d, h1, q⟩ | ⟨C, h1, q⟩
    · obtain ⟨t, p, h3⟩ := body ((cxOf (L2.CX M.P M.w) M.P M.w M.K M.mg M.base N qual (defScope st) f cdv A outer s H E).nox) ⟨M.K, H, G⟩ (L2.start N vs) ars d _ ⟨rfl, rfl, rfl, rfl, rfl, rfl, rfl, rfl, S.nd, rfl, hr⟩ ⟨fun _ => rfl, PassesOwn.never, rfl, rfl⟩ h1 rfl En
      refine ⟨fun D σ H' => t (pEnds ⟨M.K, H, G⟩ d) σ H' ∧ D = { nx := fun _ H' => Q .non H', rt := Q }, ⟨fun pins s1 σ1 H1 D I hw => ?_⟩, h3, rfl⟩
      obtain ⟨hw, rfl⟩ := hw
      refine thn (p.nox.run pins s1 σ1 H1 _ I hw) fun fl s2 hq => ?_
      cases fl with
      | next =>
        obtain ⟨σ', H', I', rfl, G', w⟩ := hq
        exact ⟨σ', H', I', q _ _ _ w .non⟩
      | ret u =>
        obtain ⟨v, σ', H', I', r, G', w, rv⟩ := hq
        exact ⟨v, σ', H', I', r, q _ _ _ w rv⟩
      | brk => exact hq
      | cont => exact hq
    · obtain ⟨t, p, h3⟩ := bodyX (cxOf (L2.CX M.P M.w) M.P M.w M.K M.mg M.base N qual (defScope st) f cdv A outer s H E) ⟨M.K, H, G⟩ (L2.start N vs) ars C _ ⟨rfl, rfl, rfl, rfl, rfl, rfl, rfl, rfl, S.nd, rfl, hr⟩ ⟨fun _ => rfl, passes_of rfl, rfl, rfl⟩
        ((takes_of rfl rfl rfl rfl).imp (fun cls d σ H' ⟨h1, h2, G', w⟩ => by rw [h1, h2]; exact q G' H' w)) h1 rfl En
      refine ⟨fun D σ H' => t { nx := fun _ _ => False, rt := fun _ _ => False } σ H' ∧ D = { nx := fun _ H' => Q .non H', rt := Q }, ⟨fun pins s1 σ1 H1 D I hw => ?_⟩, h3, rfl⟩
      obtain ⟨hw, rfl⟩ := hw
      refine thn (p.run pins s1 σ1 H1 _ I hw) fun fl s2 hq => ?_
      cases fl with
      | next => obtain ⟨σ', H', I', z⟩ := hq; exact z.elim
      | ret u => obtain ⟨v, σ', H', I', r, z⟩ := hq; exact z.elim
      | brk => obtain ⟨σ', H', I', z⟩ := hq; exact z.elim
      | cont => obtain ⟨σ', H', I', z⟩ := hq; exact z.elim
section
variable {X : Cx} {M : Md} {F : Fr} {N : List Str} {sc scope : Scope} {kk : Nat} {Γ : List Kd} {e a b c elt src : Expr} {es ifs : List Expr} {rest body : List Stmt} {st : Stmt} {D : Ends} {σ : L2.St} {G H : Hp} {Fs : Nat → Addr → Prop} {d da db d1 d2 : PyData} {ds : List PyData} {p pos px py : Pos} {x y : Str} {i j : Nat} {k k2 : Kd}
/-- raise C('m') -/
theorem ws_raise {C0 : Addr} {W : WX} {m : Str} {j : Nat} {p2 pos' : Pos} (C : Cok X M F N sc kk) (tk : Takes X W) (L : ClsX M x C0) (hg : sc.names.lookup x = some .globalImplicit) (hd : (x == ("__debug__" : Str)) = false) (q : W (.ref C0) none σ H) :
    wSs X (.Raise (some (.Call (.Name x p) [.Constant (.str m) j p2] [] pos)) none pos' :: rest) D σ H := by
  refine ws_cons ⟨_, ps_raise C.calm tk (pmk_own PySem.F.excBase_ValueError (by rw [C.hK]; exact L.xC) (by rw [C.hM]; exact L.gC) (by rw [C.hK]; exact L.kC) (raises_own (by rw [C.hK]; exact L.bC) (by rw [C.hK]; exact L.tC)) (gl_of C hg) hd), ?_⟩
  exact q
/-- a call that raises -/
theorem w_callX {R : List Ar → PyData → Prop} {RX : List Ar → Addr → Prop} {k : Nat} {ars : List Ar} {C0 : Addr} {W : WX} {Q : VK} (C : Cok X M F N sc kk) (h : FnX M k x R RX) (hk : k ≤ kk) (hg : sc.names.lookup x = some .globalImplicit) (tk : Takes X W) (ha : ArP X F Γ (e :: es) ars) (hr : RX ars C0) (E : Env F G H σ Γ Fs) (q : ∀ G' H', Env F G' H' σ Γ Fs → W (.ref C0) none σ H')
    (pl : plainE e = true) (pls : es.all plainE = true) (hd : (x == ("__debug__" : Str)) = false) : wE X (.Call (.Name x p) (e :: es) [] pos) σ H Q := by
  obtain ⟨f, fd, ps, h1, h2, h3, h4⟩ := h.ex
  rw [← C.hP, ← C.hw, ← C.hK, ← C.hM, ← C.hb] at h1
  rw [← C.hM] at h2
  rw [← C.hK] at h3 h4
  refine ⟨_, pe_callS h1 (C.room.mono hk) (gl_of C hg) h2 h3 h4 (fun σ => passAt tk σ) pa_w hd (star_plain pl _ _) (back_plain pls), ?_⟩
  refine ha σ G H Fs E _ fun vs G1 H1 w1 r1 => ?_
  refine ⟨G1, ars, w1.s, by rw [C.hK, ← C.hF]; exact r1, .inr ⟨C0, hr, fun G2 H2 w2 => ?_⟩⟩
  exact q G2 H2 ((E.grow w1).grow w2)
theorem Cok.tr (C : Cok X M F N sc kk) {pn : List (Addr × Obj)} {xe : Value → Shared → Prop} : Cok (X.tr pn xe) M F N sc kk := ⟨C.hP, C.hw, C.hK, C.hF, C.hM, C.hb, C.hN, C.hs, C.nd, C.calm, C.room⟩
/-- try: .. except x as n: .. -/
theorem ws_try {n : Str} {c : Value} {suite : List Stmt} {b₀ : Stmt} {np pos' : Pos} {Wout : WX} (C : Cok X M F N sc kk) (B : Bok X) (hi : N[i]? = some n) (hln : sc.names.lookup n = some .local) (hc : Names X x c) (tk : Takes X Wout)
    (q : ∀ pn xe W, Takes (X.tr pn xe) W → PassesOwn (model X.prog X.w) X.A X.env xe →
      (∀ cls d σ' H', (∃ b, PySem.W.exmOne X.K cls c = some b ∧ (b = true → ∀ a oe pn, H' a = none → Zc cls d oe → (∃ vs, oe.data = .fields vs) →
          wSs (X.suite a ((a, oe) :: pn)) (b₀ :: suite) { nx := fun σ' H' => wSs X rest D (σ'.set i none) H', rt := D.rt, bk := fun σ' H' => D.bk (σ'.set i none) H', ct := fun σ' H' => D.ct (σ'.set i none) H' } (σ'.set i (some (.ref a))) H') ∧ (b = false → Wout cls d σ' H')) → W cls d σ' H') →
      wSs (X.tr pn xe) body { D with nx := fun σ H => wSs X rest D σ H } σ H) :
    wSs X (.Try body [.ExceptHandler (some (.Name x np)) (some n) (b₀ :: suite) pos'] [] [] pos :: rest) D σ H := by
  refine ws_cons ⟨_, ps_try_as (i := i) (tb := fun W D σ H => ∀ pn xe, Takes (X.tr pn xe) W → PassesOwn (model X.prog X.w) X.A X.env xe → wSs (X.tr pn xe) body D σ H) (ts := fun a cls d D σ H => ∀ oe pn, Zc cls d oe → (∃ vs, oe.data = .fields vs) → wSs (X.suite a ((a, oe) :: pn)) (b₀ :: suite) D σ H)
    B.stk B.fr (by rw [C.hN]; exact C.nd) (by rw [C.hN]; exact hi) (by show X.env.scope.names.lookup n = _; rw [C.hs]; exact hln) hc tk (fun W pn xe tk hp => ⟨fun pins s σ H D I h => ?_⟩) (fun a oe cls d pn hz hf => ⟨fun pins s σ H D I h => ?_⟩), ?_⟩
  · obtain ⟨t, p, h⟩ := h pn xe tk hp
    exact p.run pins s σ H D I h
  · obtain ⟨t, p, h⟩ := h oe pn hz hf
    exact p.run pins s σ H D I h
  · intro pn xe tk hp
    refine q pn xe _ tk hp fun cls d σ' H' ⟨b, h1, h2, h3⟩ => ⟨b, h1, fun hb a ha oe pn hz hf => ?_, h3⟩
    exact h2 hb a oe pn ha hz hf
end
end Rn

namespace Rn
open PySem PySem.Spec PyProof.Rows L2

/-! ## within an except suite -/
structure Sok (X : Cx) (N : List Str) (sc : Scope) : Prop where
  hN : X.N = N
  hs : X.env.scope = sc
  nd : N.Nodup
  fn : ∀ x, X.fn x = true
section
variable {X : Cx} {M : Md} {F : Fr} {N : List Str} {sc scope : Scope} {kk : Nat} {Γ : List Kd} {e a b c elt src : Expr} {es ifs : List Expr} {rest body : List Stmt} {st : Stmt} {D : Ends} {σ : L2.St} {G H : Hp} {Fs : Nat → Addr → Prop} {d da db d1 d2 : PyData} {ds : List PyData} {p p2 pos px py : Pos} {x y : Str} {i j : Nat} {k k2 : Kd}
theorem Sok.of (C : Cok X M F N sc kk) (B : Bok X) {a : Addr} {pn : List (Addr × Obj)} : Sok (X.suite a pn) N sc := ⟨C.hN, C.hs, C.nd, B.fn⟩
theorem w_nameS (C : Sok X N sc) (h : Sel N Γ x i k) (hv : Vis sc x) {σ : L2.St} {H : Hp} {v : V} (hs : σ[i]?.join = some v) {Q : VK} (q : Q v H) (hd : (x == ("__debug__" : Str)) = false) (hcd : (x == ("__classdict__" : Str)) = false) : wE X (.Name x pos) σ H Q :=
  ⟨_, pe_var (i := i) (by rw [C.hN]; exact h.n) (by rw [C.hs]; exact hv) hd hcd, v, join_some hs, q⟩
theorem ep_nameS (C : Sok X N sc) (h : Sel N Γ x i (.val d)) (hv : Vis sc x) (hd : (x == ("__debug__" : Str)) = false) (hcd : (x == ("__classdict__" : Str)) = false) : EP X F Γ (.Name x pos) d := fun σ G H Fs E Q q => by
  obtain ⟨_, v, h1, h2⟩ := E.sl i _ h.k
  exact w_nameS C h hv h1 (q v G H (.refl E.gh) h2) hd hcd
theorem ws_setS (C : Sok X N sc) (E : Env F G H σ Γ Fs) (hx : Sel N Γ x i k) (hd : k.dry = true) (hl : Loc sc x) (h : EP X F Γ e d) {Γ' : List Kd} (hΓ : Γ.set i (.val d) = Γ') (q : ∀ σ' G' H', Env F G' H' σ' Γ' Fs → wSs X rest D σ' H') (hc : noComp e = true) :
    wSs X (.Assign [.Name x px] e pos :: rest) D σ H := by
  subst hΓ
  refine ws_cons ⟨_, ps_set (by rw [C.hN]; exact C.nd) (by rw [C.hN]; exact hx.n) (by rw [C.hs]; exact hl) pe_w (sw_no hc _ _ _) (.inl (C.fn x)), ?_⟩
  exact h σ G H Fs E _ fun v G1 H1 w1 r1 => q _ G1 H1 ((E.grow w1).putD hx.k hd (kat_val r1))
theorem glS (C : Sok X N sc) (h : sc.names.lookup x = some .globalImplicit) : Gl X x := by
  show X.env.scope.names.lookup x = _
  rw [C.hs]; exact h
/-- isinstance(e, D), e the exception that the suite holds -/
theorem ep_isE {ax : Addr} {C0 C2 : Addr} {oe : Obj} {pn : List (Addr × Obj)} {t : Bool} (C : Sok (X.suite ax ((ax, oe) :: pn)) N sc) (EC : ExcC X.K C0) (hz : Zc (.ref C0) none oe) (hf : ∃ vs, oe.data = .fields vs) (hm : X.mg "isinstance" = none) (h2 : X.mg y = some (.ref C2)) (hb : PySem.W.kitOne X.K (.ref C0) (.ref C2) = some t)
    (hx : Sel N Γ x i (.raw (.ref ax))) (hv : Vis sc x) (hd : (x == ("__debug__" : Str)) = false) (hcd : (x == ("__classdict__" : Str)) = false) (hg : sc.names.lookup ("isinstance" : Str) = some .globalImplicit) (hg2 : sc.names.lookup y = some .globalImplicit) (hd2 : (y == ("__debug__" : Str)) = false) :
    EP (X.suite ax ((ax, oe) :: pn)) F Γ (.Call (.Name "isinstance" p) [.Name x px, .Name y py] [] pos) (.bool t) := fun σ G H Fs E Q q => by
  refine ⟨_, pe_callB (call_isE EC hz hf) (glS C hg) hm (by decide +kernel) (pa_cons pe_w (pa_cons (pe_glob (v := .ref C2) (glS C hg2) h2 rfl hd2) pa_nil)), ?_⟩
  obtain ⟨_, h1⟩ := E.sl i _ hx.k
  refine w_nameS C hx hv h1 ?_ hd hcd
  exact ⟨.ref C2, .ref C2, t, rfl, fun u r => r, hb, q _ _ _ (.refl E.gh) .bl⟩
theorem ep_isEB {ax : Addr} {C0 : Addr} {oe : Obj} {pn : List (Addr × Obj)} {T : String} {t : Bool} (C : Sok (X.suite ax ((ax, oe) :: pn)) N sc) (EC : ExcC X.K C0) (hz : Zc (.ref C0) none oe) (hf : ∃ vs, oe.data = .fields vs) (hm : X.mg "isinstance" = none) (h2 : X.mg y = none) (hT : bootBuiltins y = some (.type T)) (hb : PySem.W.kitOne X.K (.ref C0) (.type T) = some t)
    (hx : Sel N Γ x i (.raw (.ref ax))) (hv : Vis sc x) (hd : (x == ("__debug__" : Str)) = false) (hcd : (x == ("__classdict__" : Str)) = false) (hg : sc.names.lookup ("isinstance" : Str) = some .globalImplicit) (hg2 : sc.names.lookup y = some .globalImplicit) (hd2 : (y == ("__debug__" : Str)) = false) (hn2 : y ≠ "__name__") :
    EP (X.suite ax ((ax, oe) :: pn)) F Γ (.Call (.Name "isinstance" p) [.Name x px, .Name y py] [] pos) (.bool t) := fun σ G H Fs E Q q => by
  refine ⟨_, pe_callB (call_isE EC hz hf) (glS C hg) hm (by decide +kernel) (pa_cons pe_w (pa_cons (pe_bltn (v := .ty T) (glS C hg2) h2 hT rfl hn2 hd2) pa_nil)), ?_⟩
  obtain ⟨_, h1⟩ := E.sl i _ hx.k
  refine w_nameS C hx hv h1 ?_ hd hcd
  exact ⟨.ty T, .type T, t, rfl, fun u r => r, hb, q _ _ _ (.refl E.gh) .bl⟩
theorem RpL.bls_inv {G : Hp} : ∀ {vs : List V} {bs : List Bool}, RpL G vs (bs.map PyData.bool) → vs = bs.map V.bl
  | _, [], .nil => rfl
  | _, n :: r, h => by
    cases h with
    | cons a b => cases a; rw [RpL.bls_inv b]; rfl
theorem flat_bls : ∀ {bs : List Bool}, (bs.map V.bl).all flatV = true
  | [] => rfl
  | n :: r => by rw [List.map_cons, List.all_cons, flat_bls]; rfl
/-- True not in (truth values) -/
theorem ep_notInB {t : Bool} {bs : List Bool} (ha : EP X F Γ a (.bool t)) (hb : LP X F Γ b (bs.map .bool)) (hm : behindInMarks .NotIn b = false) : EP X F Γ (.Compare a [.NotIn] [b] pos) (.bool (!(inV (.bl t) (bs.map .bl)))) := fun σ G H Fs E Q q => by
  refine ⟨_, pe_cmpR op_notIn_seq pe_w pe_w hm, ?_⟩
  refine ha σ G H Fs E _ fun x G1 H1 w1 r1 => hb σ G1 H1 Fs (E.grow w1) _ fun p vs G2 H2 w2 h2 hc2 r2 => ?_
  obtain rfl := r1.bl_inv
  obtain rfl := r2.bls_inv
  refine ⟨p, _, rfl, .inl (.inl (.inl h2)), rfl, flat_bls, ?_⟩
  rw [if_pos rfl]
  exact q _ _ _ (w1.trans w2) .bl
theorem env_raw (E : Env F G H σ Γ Fs) (hi : Γ[i]? = some k) (hd : k.dry = true) {v : V} : Env F G H (σ.set i (some v)) (Γ.set i (.raw v)) Fs := E.putD hi hd ⟨fun _ z => z, rfl⟩
inductive VOf : List PyData → List (List Int) → Prop
  | nil : VOf [] []
  | cons {x : List Int} {ds : List PyData} {ns : List (List Int)} : VOf ds ns → VOf (tupI x :: ds) (x :: ns)
theorem VOf.eq : ∀ {ds : List PyData} {ns : List (List Int)}, VOf ds ns → ds = ns.map tupI
  | _, _, .nil => rfl
  | _, _, .cons h => by rw [h.eq]; rfl
theorem lp_lstV {vs : List (List Int)} (h : AP_ X F Γ es ds) (hi : VOf ds vs) (hl : ds.length ≤ cap) : LP X F Γ (.List es pos) (vs.map tupI) := by
  rw [← hi.eq]; exact NP.lp (np_lst h hl)
end
end Rn

namespace Rn
open PySem PySem.Spec PyProof.Rows L2

/-! ## words that take the rules one after another -/
local macro_rules | `(tactic| walk_at "vis") => `(tactic| decide +kernel)
local macro_rules | `(tactic| walk_at "nrm") => `(tactic| ((try intro _); (try simp only [List.set_cons_succ, List.set_cons_zero, List.map_cons, List.map_nil, Ar.kd, List.cons_append, List.nil_append, List.replicate_succ, List.replicate_zero, List.replicate]); first | done | rfl))
local macro_rules | `(tactic| walk_at "sel") => `(tactic| ((try simp only [List.set_cons_succ, List.set_cons_zero]); repeat (first | with_reducible exact Sel.here | with_reducible apply Sel.there)))
local macro_rules | `(tactic| walk_at "op") => `(tactic| first
  | with_reducible exact do_add | with_reducible exact do_sub | with_reducible exact do_lt | with_reducible exact do_le | with_reducible exact do_gt | with_reducible exact do_ge
  | with_reducible exact do_eqI | with_reducible exact do_neI | with_reducible exact do_xor
  | ((with_reducible refine' do_mod ?_); first | omega | decide | skip) | ((with_reducible refine' do_mul ?_); first | exact Or.inr ⟨by decide, by decide⟩ | exact Or.inl ⟨by decide, by decide⟩ | exact Or.inl ⟨by omega, by omega⟩ | exact Or.inr ⟨by omega, by omega⟩ | skip) | ((with_reducible refine' do_div ?_); first | exact ⟨by decide, by decide⟩ | skip)
  | ((with_reducible refine' do_rep0 ?h1_do_rep0 ?h2_do_rep0); (case' h1_do_rep0 => first | omega | skip); (case' h2_do_rep0 => first | omega | skip))
  | ((with_reducible refine' do_pow ?_); exact ⟨by decide, by decide, by decide⟩)
  | with_reducible exact do_eqB | with_reducible exact do_neB | with_reducible exact do_eqS | with_reducible exact do_neS | with_reducible exact do_isN | with_reducible exact do_notN
  | ((with_reducible refine' do_cat ?_); first | (simp only [List.length_map, List.length_append, List.length_cons, List.length_nil, cap]; omega) | skip)
  | ((with_reducible refine' do_eqN (n := 8) (m := 8) (by assumption) ?n1_do_eqN ?n2_do_eqN (by decide) (by decide)); (case' n1_do_eqN => walk_at "nd"); (case' n2_do_eqN => walk_at "nd"))
  | ((with_reducible refine' do_neN (n := 8) (m := 8) (by assumption) ?n1_do_neN ?n2_do_neN (by decide) (by decide)); (case' n1_do_neN => walk_at "nd"); (case' n2_do_neN => walk_at "nd")))
local macro_rules | `(tactic| walk_at "nm") => `(tactic| ((with_reducible refine' ep_name (by assumption) ?nsel_ep_name ?nvis_ep_name ?nhd_ep_name ?nhc_ep_name); (case nsel_ep_name => walk_at "sel"); (case nvis_ep_name => walk_at "vis"); (case nhd_ep_name => walk_at "vis"); (case nhc_ep_name => walk_at "vis")))
local macro_rules | `(tactic| walk_at "lp") => `(tactic| first
  | ((with_reducible refine' lp_lstI ?na_lp_lstI ?ni_lp_lstI ?nlen_lp_lstI); (case' na_lp_lstI => walk_at "ap"); (case ni_lp_lstI => walk_at "ints"); (case nlen_lp_lstI => first | (simp [cap]; done) | skip))
  | ((with_reducible refine' lp_lstV ?na_lp_lstV ?ni_lp_lstV ?nlen_lp_lstV); (case' na_lp_lstV => walk_at "ap"); (case ni_lp_lstV => repeat (first | with_reducible exact VOf.nil | with_reducible apply VOf.cons)); (case nlen_lp_lstV => first | (simp [cap]; done) | skip))
  | ((with_reducible refine' lp_own (by assumption) ?nsel_lp_own ?nvis_lp_own ?nhd_lp_own ?nhc_lp_own); (case nsel_lp_own => walk_at "sel"); (case nvis_lp_own => walk_at "vis"); (case nhd_lp_own => walk_at "vis"); (case nhc_lp_own => walk_at "vis"))
  | ((with_reducible refine' lp_arg (by assumption) ?nsel_lp_arg ?nvis_lp_arg ?nhd_lp_arg ?nhc_lp_arg); (case nsel_lp_arg => walk_at "sel"); (case nvis_lp_arg => walk_at "vis"); (case nhd_lp_arg => walk_at "vis"); (case nhc_lp_arg => walk_at "vis"))
  | ((with_reducible refine' NP.lp ?nb_NP_lp); (case' nb_NP_lp => walk_at "np")) | ((with_reducible refine' EP.lp ?nb_EP_lp); (case' nb_EP_lp => walk_at "ep")))
local macro_rules | `(tactic| walk_at "oo") => `(tactic| first | with_reducible exact op_none | ((with_reducible refine' op_some ?nb_op_some); (case' nb_op_some => walk_at "ep")))
local macro_rules | `(tactic| walk_at "ap") => `(tactic| first | with_reducible exact ap_nil | ((with_reducible refine' ap_cons ?ah_ap_cons ?ar_ap_cons ?apl_ap_cons); (case apl_ap_cons => rfl); (case' ah_ap_cons => walk_at "ep"); (case' ar_ap_cons => walk_at "ap")))
local macro_rules | `(tactic| walk_at "lc") => `(tactic| (intro s0 H0 C0 cl0 fp0 C1; (try simp only [List.set_cons_succ, List.set_cons_zero])))
local macro_rules | `(tactic| walk_at "cp") => `(tactic| first
  | ((with_reducible refine' cp_zip (by assumption) (by assumption) ?rx_cp_zip ?rd_cp_zip ?ry_cp_zip ?rd2_cp_zip ?rij_cp_zip ?rs_cp_zip ?rt_cp_zip ?rlen_cp_zip ?rok_cp_zip ?rl_cp_zip ?rf_cp_zip ?rl2_cp_zip ?rf2_cp_zip ?rg_cp_zip ?rp1_cp_zip ?rp2_cp_zip ?rE_cp_zip); (case rx_cp_zip => walk_at "sel"); (case rd_cp_zip => first | rfl | assumption); (case ry_cp_zip => walk_at "sel"); (case rd2_cp_zip => first | rfl | assumption); (case rij_cp_zip => decide); (case' rs_cp_zip => walk_at "ep"); (case' rt_cp_zip => walk_at "ep"); (case' rlen_cp_zip => first | assumption | skip); (case rok_cp_zip => walk_at "vis"); (case rl_cp_zip => walk_at "vis"); (case rf_cp_zip => walk_at "vis"); (case rl2_cp_zip => walk_at "vis"); (case rf2_cp_zip => walk_at "vis"); (case rg_cp_zip => walk_at "vis"); (case rp1_cp_zip => rfl); (case rp2_cp_zip => rfl); (case' rE_cp_zip => intro z hz; walk_at "lc"; walk_at "ep"))
  | ((with_reducible refine' cp_rangeI0 (by assumption) (by assumption) ?rx_cp_rangeI0 ?rd_cp_rangeI0 ?rs_cp_rangeI0 ?rn_cp_rangeI0 ?rok_cp_rangeI0 ?rl_cp_rangeI0 ?rf_cp_rangeI0 ?rg_cp_rangeI0 ?rpl_cp_rangeI0 ?rE_cp_rangeI0 ?rn0_cp_rangeI0); (case rx_cp_rangeI0 => walk_at "sel"); (case rd_cp_rangeI0 => first | rfl | assumption); (case' rs_cp_rangeI0 => walk_at "ep"); (case rok_cp_rangeI0 => walk_at "vis"); (case rl_cp_rangeI0 => walk_at "vis"); (case rf_cp_rangeI0 => walk_at "vis"); (case rg_cp_rangeI0 => walk_at "vis"); (case rpl_cp_rangeI0 => rfl); (case' rn_cp_rangeI0 => first | omega | skip); (case' rn0_cp_rangeI0 => first | omega | skip); (case' rE_cp_rangeI0 => intro j hj; walk_at "lc"; walk_at "ep"))
  | ((with_reducible refine' cp_rangeI (by assumption) (by assumption) ?rx_cp_rangeI ?rd_cp_rangeI ?rs_cp_rangeI ?rn_cp_rangeI ?rok_cp_rangeI ?rl_cp_rangeI ?rf_cp_rangeI ?rg_cp_rangeI ?rpl_cp_rangeI ?rT_cp_rangeI ?rE_cp_rangeI ?rn0_cp_rangeI); (case rx_cp_rangeI => walk_at "sel"); (case rd_cp_rangeI => first | rfl | assumption); (case' rs_cp_rangeI => walk_at "ep"); (case rok_cp_rangeI => walk_at "vis"); (case rl_cp_rangeI => walk_at "vis"); (case rf_cp_rangeI => walk_at "vis"); (case rg_cp_rangeI => walk_at "vis"); (case rpl_cp_rangeI => rfl); (case' rn_cp_rangeI => first | omega | skip); (case' rn0_cp_rangeI => first | omega | skip); (case' rT_cp_rangeI => intro j hj; walk_at "ts"); (case' rE_cp_rangeI => intro j hj hp; walk_at "lc"; walk_at "ep"))
  | ((with_reducible refine' cp_rangeV0 (by assumption) (by assumption) ?rx_cp_rangeV0 ?rd_cp_rangeV0 ?rs_cp_rangeV0 ?rn_cp_rangeV0 ?rok_cp_rangeV0 ?rl_cp_rangeV0 ?rf_cp_rangeV0 ?rg_cp_rangeV0 ?rpl_cp_rangeV0 ?rE_cp_rangeV0 ?rn0_cp_rangeV0); (case rx_cp_rangeV0 => walk_at "sel"); (case rd_cp_rangeV0 => first | rfl | assumption); (case' rs_cp_rangeV0 => walk_at "ep"); (case rok_cp_rangeV0 => walk_at "vis"); (case rl_cp_rangeV0 => walk_at "vis"); (case rf_cp_rangeV0 => walk_at "vis"); (case rg_cp_rangeV0 => walk_at "vis"); (case rpl_cp_rangeV0 => rfl); (case' rn_cp_rangeV0 => first | omega | skip); (case' rn0_cp_rangeV0 => first | omega | skip); (case' rE_cp_rangeV0 => intro j hj; walk_at "lc"; walk_at "ep"))
  | ((with_reducible refine' cp_range0 (by assumption) (by assumption) ?rx_cp_range0 ?rd_cp_range0 ?rs_cp_range0 ?rn_cp_range0 ?rok_cp_range0 ?rl_cp_range0 ?rf_cp_range0 ?rg_cp_range0 ?rpl_cp_range0 ?rE_cp_range0 ?rn0_cp_range0); (case rx_cp_range0 => walk_at "sel"); (case rd_cp_range0 => first | rfl | assumption); (case' rs_cp_range0 => walk_at "ep"); (case rok_cp_range0 => walk_at "vis"); (case rl_cp_range0 => walk_at "vis"); (case rf_cp_range0 => walk_at "vis"); (case rg_cp_range0 => walk_at "vis"); (case rpl_cp_range0 => rfl); (case' rn_cp_range0 => first | omega | skip); (case' rn0_cp_range0 => first | omega | skip); (case' rE_cp_range0 => intro j hj; walk_at "lc"; walk_at "ep"))
  | ((with_reducible refine' cp_range (by assumption) (by assumption) ?rx_cp_range ?rd_cp_range ?rs_cp_range ?rn_cp_range ?rok_cp_range ?rl_cp_range ?rf_cp_range ?rg_cp_range ?rpl_cp_range ?rT_cp_range ?rE_cp_range ?rn0_cp_range); (case rx_cp_range => walk_at "sel"); (case rd_cp_range => first | rfl | assumption); (case' rs_cp_range => walk_at "ep"); (case rok_cp_range => walk_at "vis"); (case rl_cp_range => walk_at "vis"); (case rf_cp_range => walk_at "vis"); (case rg_cp_range => walk_at "vis"); (case rpl_cp_range => rfl); (case' rn_cp_range => first | omega | skip); (case' rn0_cp_range => first | omega | skip); (case' rT_cp_range => intro j hj; walk_at "ts"); (case' rE_cp_range => intro j hj hp; walk_at "lc"; walk_at "ep"))
  | ((with_reducible refine' cp_listI0 (by assumption) ?rx_cp_listI0 ?rd_cp_listI0 ?rs_cp_listI0 ?rok_cp_listI0 ?rl_cp_listI0 ?rf_cp_listI0 ?rE_cp_listI0); (case rx_cp_listI0 => walk_at "sel"); (case rd_cp_listI0 => first | rfl | assumption); (case' rs_cp_listI0 => walk_at "lp"); (case rok_cp_listI0 => walk_at "vis"); (case rl_cp_listI0 => walk_at "vis"); (case rf_cp_listI0 => walk_at "vis"); (case' rE_cp_listI0 => intro y hy; walk_at "lc"; walk_at "ep"))
  | ((with_reducible refine' cp_listI (by assumption) ?rx_cp_listI ?rd_cp_listI ?rs_cp_listI ?rok_cp_listI ?rl_cp_listI ?rf_cp_listI ?rT_cp_listI ?rE_cp_listI); (case rx_cp_listI => walk_at "sel"); (case rd_cp_listI => first | rfl | assumption); (case' rs_cp_listI => walk_at "lp"); (case rok_cp_listI => walk_at "vis"); (case rl_cp_listI => walk_at "vis"); (case rf_cp_listI => walk_at "vis"); (case' rT_cp_listI => intro y hy; walk_at "ts"); (case' rE_cp_listI => intro y hy hp; walk_at "lc"; walk_at "ep"))
  | ((with_reducible refine' cp_listV0 (by assumption) ?rx_cp_listV0 ?rd_cp_listV0 ?rs_cp_listV0 ?rok_cp_listV0 ?rl_cp_listV0 ?rf_cp_listV0 ?rE_cp_listV0); (case rx_cp_listV0 => walk_at "sel"); (case rd_cp_listV0 => first | rfl | assumption); (case' rs_cp_listV0 => walk_at "lp"); (case rok_cp_listV0 => walk_at "vis"); (case rl_cp_listV0 => walk_at "vis"); (case rf_cp_listV0 => walk_at "vis"); (case' rE_cp_listV0 => intro y hy; walk_at "lc"; walk_at "ep"))
  | ((with_reducible refine' cp_list0 (by assumption) ?rx_cp_list0 ?rd_cp_list0 ?rs_cp_list0 ?rok_cp_list0 ?rl_cp_list0 ?rf_cp_list0 ?rE_cp_list0); (case rx_cp_list0 => walk_at "sel"); (case rd_cp_list0 => first | rfl | assumption); (case' rs_cp_list0 => walk_at "lp"); (case rok_cp_list0 => walk_at "vis"); (case rl_cp_list0 => walk_at "vis"); (case rf_cp_list0 => walk_at "vis"); (case' rE_cp_list0 => intro y hy; walk_at "lc"; walk_at "ep"))
  | ((with_reducible refine' cp_list (by assumption) ?rx_cp_list ?rd_cp_list ?rs_cp_list ?rok_cp_list ?rl_cp_list ?rf_cp_list ?rT_cp_list ?rE_cp_list); (case rx_cp_list => walk_at "sel"); (case rd_cp_list => first | rfl | assumption); (case' rs_cp_list => walk_at "lp"); (case rok_cp_list => walk_at "vis"); (case rl_cp_list => walk_at "vis"); (case rf_cp_list => walk_at "vis"); (case' rT_cp_list => intro y hy; walk_at "ts"); (case' rE_cp_list => intro y hy hp; walk_at "lc"; walk_at "ep"))
  | ((with_reducible refine' cp_tupI (by assumption) ?rx_cp_tupI ?rd_cp_tupI ?rs_cp_tupI ?rok_cp_tupI ?rl_cp_tupI ?rf_cp_tupI ?rT_cp_tupI ?rE_cp_tupI); (case rx_cp_tupI => walk_at "sel"); (case rd_cp_tupI => first | rfl | assumption); (case' rs_cp_tupI => walk_at "ep"); (case rok_cp_tupI => walk_at "vis"); (case rl_cp_tupI => walk_at "vis"); (case rf_cp_tupI => walk_at "vis"); (case' rT_cp_tupI => intro y hy; walk_at "ts"); (case' rE_cp_tupI => intro y hy hp; walk_at "lc"; walk_at "ep"))
  | ((with_reducible refine' cp_tup (by assumption) ?rx_cp_tup ?rd_cp_tup ?rs_cp_tup ?rok_cp_tup ?rl_cp_tup ?rf_cp_tup ?rT_cp_tup ?rE_cp_tup); (case rx_cp_tup => walk_at "sel"); (case rd_cp_tup => first | rfl | assumption); (case' rs_cp_tup => walk_at "ep"); (case rok_cp_tup => walk_at "vis"); (case rl_cp_tup => walk_at "vis"); (case rf_cp_tup => walk_at "vis"); (case' rT_cp_tup => intro y hy; walk_at "ts"); (case' rE_cp_tup => intro y hy hp; walk_at "lc"; walk_at "ep")))
local macro_rules | `(tactic| walk_at "ts") => `(tactic| first | (intro _ _ _ _ _ _; with_reducible exact tsp_nil) | (walk_at "lc"; (with_reducible refine' tsp_one ?tb_tsp_one); (case' tb_tsp_one => walk_at "tp")))
local macro_rules | `(tactic| walk_at "np") => `(tactic| first
  | ((with_reducible refine' np_lc (by assumption) ?nc_np_lc ?nf_np_lc); (case nf_np_lc => intro _; rfl); (case' nc_np_lc => walk_at "cp"))
  | ((with_reducible refine' np_sset (by assumption) (by assumption) (by assumption) ?na_np_sset ?nlen_np_sset ?ng_np_sset ?ng2_np_sset ?npl_np_sset); (case npl_np_sset => rfl); (case ng_np_sset => walk_at "vis"); (case ng2_np_sset => walk_at "vis"); (case' na_np_sset => walk_at "lp"); (case' nlen_np_sset => first | omega | skip))
  | ((with_reducible refine' np_listT (by assumption) (by assumption) ?na_np_listT ?ng_np_listT ?npl_np_listT); (case npl_np_listT => rfl); (case ng_np_listT => walk_at "vis"); (case' na_np_listT => walk_at "ep"))
  | ((with_reducible refine' np_lst ?na_np_lst ?nlen_np_lst); (case' na_np_lst => walk_at "ap"); (case nlen_np_lst => first | (simp [cap]; done) | skip))
  | ((with_reducible refine' np_slL ?na_np_slL ?nl_np_slL ?nu_np_slL); (case' na_np_slL => walk_at "lp"); (case' nl_np_slL => walk_at "oo"); (case' nu_np_slL => walk_at "oo"))
  | ((with_reducible refine' np_list (by assumption) (by assumption) ?na_np_list ?ng_np_list ?npl_np_list); (case npl_np_list => rfl); (case' na_np_list => walk_at "lp"); (case ng_np_list => walk_at "vis")))
local macro_rules | `(tactic| walk_at "ep") => `(tactic| first
  | with_reducible exact ep_int | with_reducible exact ep_bool | with_reducible exact ep_none | with_reducible exact ep_str
  | walk_at "nm"
  | ((with_reducible refine' ep_bin ?ba_ep_bin ?bb_ep_bin ?bo_ep_bin); (case' ba_ep_bin => walk_at "ep"); (case' bb_ep_bin => walk_at "ep"); (case' bo_ep_bin => walk_at "op"))
  | ((with_reducible refine' ep_inI ?ba_ep_inI ?bb_ep_inI ?bm_ep_inI); (case bm_ep_inI => rfl); (case' ba_ep_inI => walk_at "ep"); (case' bb_ep_inI => walk_at "lp"))
  | ((with_reducible refine' ep_notInI ?ba_ep_notInI ?bb_ep_notInI ?bm_ep_notInI); (case bm_ep_notInI => rfl); (case' ba_ep_notInI => walk_at "ep"); (case' bb_ep_notInI => walk_at "lp"))
  | ((with_reducible refine' ep_cmp ?ba_ep_cmp ?bb_ep_cmp ?bo_ep_cmp ?bm_ep_cmp); (case bm_ep_cmp => first | rfl | exact nomark _); (case' ba_ep_cmp => walk_at "ep"); (case' bb_ep_cmp => walk_at "ep"); (case' bo_ep_cmp => walk_at "op"))
  | ((with_reducible refine' ep_neg ?ba_ep_neg); (case' ba_ep_neg => walk_at "ep"))
  | ((with_reducible refine' ep_len (by assumption) (by assumption) ?la_ep_len ?lg_ep_len ?lpl_ep_len); (case lpl_ep_len => rfl); (case' la_ep_len => walk_at "lp"); (case lg_ep_len => walk_at "vis"))
  | walk_at "ix"
  | walk_at "call"
  | ((with_reducible refine' ep_not ?ba_ep_not); (case' ba_ep_not => walk_at "ep"))
  | ((with_reducible refine' ep_and ?ba_ep_and ?bb_ep_and); (case' ba_ep_and => walk_at "ep"); (case' bb_ep_and => intro hh; (try simp only [decide_eq_true_eq, decide_eq_false_iff_not, Bool.not_eq_true', Bool.not_eq_false'] at hh); walk_at "ep"))
  | ((with_reducible refine' ep_or ?ba_ep_or ?bb_ep_or); (case' ba_ep_or => walk_at "ep"); (case' bb_ep_or => intro hh; (try simp only [decide_eq_true_eq, decide_eq_false_iff_not, Bool.not_eq_true', Bool.not_eq_false'] at hh); walk_at "ep"))
  | ((with_reducible refine' ep_one ?ba_ep_one); (case' ba_ep_one => walk_at "ep"))
  | ((with_reducible refine' ep_ixS (by assumption) ?ss_ep_ixS ?sv_ep_ixS ?sj_ep_ixS ?b0_ep_ixS ?b1_ep_ixS ?bpi_ep_ixS ?shd_ep_ixS ?shc_ep_ixS); (case ss_ep_ixS => walk_at "sel"); (case sv_ep_ixS => walk_at "vis"); (case shd_ep_ixS => walk_at "vis"); (case shc_ep_ixS => walk_at "vis"); (case bpi_ep_ixS => exact fun _ _ => rfl); (case' sj_ep_ixS => walk_at "ep"); (case' b0_ep_ixS => first | omega | skip); (case' b1_ep_ixS => first | omega | skip))
  | ((with_reducible refine' ep_lenS (by assumption) (by assumption) ?ss_ep_lenS ?sv_ep_lenS ?sg_ep_lenS ?shd_ep_lenS ?shc_ep_lenS); (case ss_ep_lenS => walk_at "sel"); (case sv_ep_lenS => walk_at "vis"); (case sg_ep_lenS => walk_at "vis"); (case shd_ep_lenS => walk_at "vis"); (case shc_ep_lenS => walk_at "vis"))
  | ((with_reducible refine' ep_tuple (by assumption) (by assumption) ?na_ep_tuple ?ng_ep_tuple ?npl_ep_tuple); (case npl_ep_tuple => rfl); (case ng_ep_tuple => walk_at "vis"); (case' na_ep_tuple => walk_at "lp"))
  | ((with_reducible refine' ep_sum (by assumption) (by assumption) ?na_ep_sum ?ng_ep_sum ?npl_ep_sum); (case npl_ep_sum => rfl); (case ng_ep_sum => walk_at "vis"); (case' na_ep_sum => walk_at "lp"))
  | ((with_reducible refine' ep_intB (by assumption) (by assumption) ?na_ep_intB ?ng_ep_intB ?npl_ep_intB); (case npl_ep_intB => rfl); (case ng_ep_intB => walk_at "vis"); (case' na_ep_intB => walk_at "ep"))
  | ((with_reducible refine' ep_lenT (by assumption) (by assumption) ?la_ep_lenT ?lg_ep_lenT ?lpl_ep_lenT); (case lpl_ep_lenT => rfl); (case' la_ep_lenT => walk_at "ep"); (case lg_ep_lenT => walk_at "vis"))
  | ((first | (with_reducible refine' ep_is_int (by assumption) (by assumption) (by assumption) ?ia_ep_is ?ig_ep_is ?ig2_ep_is ?ipl_ep_is) | (with_reducible refine' ep_is_bool (by assumption) (by assumption) (by assumption) ?ia_ep_is ?ig_ep_is ?ig2_ep_is ?ipl_ep_is) | (with_reducible refine' ep_is_list (by assumption) (by assumption) (by assumption) ?ia_ep_is ?ig_ep_is ?ig2_ep_is ?ipl_ep_is) | (with_reducible refine' ep_is_tuple (by assumption) (by assumption) (by assumption) ?ia_ep_is ?ig_ep_is ?ig2_ep_is ?ipl_ep_is) | (with_reducible refine' ep_is_str (by assumption) (by assumption) (by assumption) ?ia_ep_is ?ig_ep_is ?ig2_ep_is ?ipl_ep_is)); (case ipl_ep_is => rfl); (case ig_ep_is => walk_at "vis"); (case ig2_ep_is => walk_at "vis"); (case' ia_ep_is => walk_at "ep"))
  | ((with_reducible refine' ep_tup ?na_ep_tup ?nlen_ep_tup); (case' na_ep_tup => walk_at "ap"); (case nlen_ep_tup => first | (simp [cap]; done) | skip))
  | ((with_reducible refine' NP.ep ?nb_NP_ep); (case' nb_NP_ep => walk_at "np")))
local macro_rules | `(tactic| walk_at "ints") => `(tactic| repeat (first | with_reducible exact IntsOf.nil | with_reducible apply IntsOf.cons))
local macro_rules | `(tactic| walk_at "bd") => `(tactic| first | omega | (simp only [List.length_cons, List.length_nil, List.length_map]; omega) | skip)
local macro_rules | `(tactic| walk_at "nd") => `(tactic| repeat (first | with_reducible exact nd_int | with_reducible exact nd_none | with_reducible exact nd_nil | with_reducible refine nd_cons ?_ ?_ | ((with_reducible refine nd_lmap ?_); intro _) | ((with_reducible refine nd_tmap ?_); intro _) | with_reducible refine nd_lst ?_ | with_reducible refine nd_tup ?_ | ((with_reducible refine nd_str ?_); decide +kernel)))
local macro_rules | `(tactic| walk_at "ix") => `(tactic| first
  | ((with_reducible refine' ep_ixL ?ba_ep_ixL ep_int ?bj_ep_ixL ?bpi_ep_ixL); (case bpi_ep_ixL => exact fun _ _ => rfl); (case' ba_ep_ixL => walk_at "lp"); (case bj_ep_ixL => rfl))
  | ((with_reducible refine' ep_ixT ?ba_ep_ixT ep_int ?bj_ep_ixT ?bpi_ep_ixT); (case bpi_ep_ixT => exact fun _ _ => rfl); (case' ba_ep_ixT => walk_at "ep"); (case bj_ep_ixT => rfl))
  | ((with_reducible refine' ep_ixI ?ba_ep_ixI ?bb_ep_ixI ?b0_ep_ixI ?b1_ep_ixI ?bpi_ep_ixI); (case bpi_ep_ixI => exact fun _ _ => rfl); (case' ba_ep_ixI => walk_at "lp"); (case' bb_ep_ixI => walk_at "ep"); (case' b0_ep_ixI => walk_at "bd"); (case' b1_ep_ixI => walk_at "bd"))
  | ((with_reducible refine' ep_ixV ?ba_ep_ixV ?bb_ep_ixV ?b0_ep_ixV ?b1_ep_ixV ?bpi_ep_ixV); (case bpi_ep_ixV => exact fun _ _ => rfl); (case' ba_ep_ixV => walk_at "lp"); (case' bb_ep_ixV => walk_at "ep"); (case' b0_ep_ixV => walk_at "bd"); (case' b1_ep_ixV => walk_at "bd"))
  | ((with_reducible refine' ep_ixQ ?ba_ep_ixQ ?bb_ep_ixQ ?b0_ep_ixQ ?b1_ep_ixQ ?bpi_ep_ixQ); (case bpi_ep_ixQ => exact fun _ _ => rfl); (case' ba_ep_ixQ => walk_at "lp"); (case' bb_ep_ixQ => walk_at "ep"); (case' b0_ep_ixQ => walk_at "bd"); (case' b1_ep_ixQ => walk_at "bd"))
  | ((with_reducible refine' ep_ixJ ?ba_ep_ixJ ?bi_ep_ixJ ?bb_ep_ixJ ?b0_ep_ixJ ?b1_ep_ixJ ?bpi_ep_ixJ); (case bpi_ep_ixJ => exact fun _ _ => rfl); (case' ba_ep_ixJ => walk_at "lp"); (case bi_ep_ixJ => walk_at "ints"); (case' bb_ep_ixJ => walk_at "ep"); (case' b0_ep_ixJ => walk_at "bd"); (case' b1_ep_ixJ => walk_at "bd"))
  | ((with_reducible refine' ep_ixG ?ba_ep_ixG ?bb_ep_ixG ?b0_ep_ixG ?b1_ep_ixG ?bpi_ep_ixG); (case bpi_ep_ixG => exact fun _ _ => rfl); (case' ba_ep_ixG => walk_at "lp"); (case' bb_ep_ixG => walk_at "ep"); (case' b0_ep_ixG => walk_at "bd"); (case' b1_ep_ixG => walk_at "bd"))
  | ((with_reducible refine' ep_ixIT ?ba_ep_ixIT ?bb_ep_ixIT ?b0_ep_ixIT ?b1_ep_ixIT ?bpi_ep_ixIT); (case bpi_ep_ixIT => exact fun _ _ => rfl); (case' ba_ep_ixIT => walk_at "ep"); (case' bb_ep_ixIT => walk_at "ep"); (case' b0_ep_ixIT => walk_at "bd"); (case' b1_ep_ixIT => walk_at "bd")))
local macro_rules | `(tactic| walk_at "tp") => `(tactic| first
  | ((with_reducible refine' WT.tp (wt_and ?ba_wt_and ?bb_wt_and)); (case' ba_wt_and => walk_at "tp"); (case' bb_wt_and => intro hh; (try simp only [decide_eq_true_eq, decide_eq_false_iff_not, Bool.not_eq_true', Bool.not_eq_false'] at hh); walk_at "wt"))
  | ((with_reducible refine' WT.tp (wt_or ?ba_wt_or ?bb_wt_or)); (case' ba_wt_or => walk_at "tp"); (case' bb_wt_or => intro hh; (try simp only [decide_eq_true_eq, decide_eq_false_iff_not, Bool.not_eq_true', Bool.not_eq_false'] at hh); walk_at "wt"))
  | ((with_reducible refine' tp_not ?nx_tp_not); (case' nx_tp_not => walk_at "tp"))
  | ((with_reducible refine' tp_inI ?ba_tp_inI ?bb_tp_inI ?bm_tp_inI); (case bm_tp_inI => rfl); (case' ba_tp_inI => walk_at "ep"); (case' bb_tp_inI => walk_at "lp"))
  | ((with_reducible refine' tp_notInI ?ba_tp_notInI ?bb_tp_notInI ?bm_tp_notInI); (case bm_tp_notInI => rfl); (case' ba_tp_notInI => walk_at "ep"); (case' bb_tp_notInI => walk_at "lp"))
  | ((with_reducible refine' tp_cmp ?ba_tp_cmp ?bb_tp_cmp ?bo_tp_cmp ?bm_tp_cmp); (case bm_tp_cmp => first | rfl | exact nomark _); (case' ba_tp_cmp => walk_at "ep"); (case' bb_tp_cmp => walk_at "ep"); (case' bo_tp_cmp => walk_at "op"))
  | ((with_reducible refine' tp_lst ?la_tp_lst ?lw_tp_lst); (case lw_tp_lst => intro _; rfl); (case' la_tp_lst => first
      | ((with_reducible refine' lp_own (by assumption) ?nsel_lp_own ?nvis_lp_own ?nhd_lp_own ?nhc_lp_own); (case nsel_lp_own => walk_at "sel"); (case nvis_lp_own => walk_at "vis"); (case nhd_lp_own => walk_at "vis"); (case nhc_lp_own => walk_at "vis"))
      | ((with_reducible refine' lp_arg (by assumption) ?nsel_lp_arg ?nvis_lp_arg ?nhd_lp_arg ?nhc_lp_arg); (case nsel_lp_arg => walk_at "sel"); (case nvis_lp_arg => walk_at "vis"); (case nhd_lp_arg => walk_at "vis"); (case nhc_lp_arg => walk_at "vis"))))
  | ((with_reducible refine' tp_val ?vx_tp_val ?bw_tp_val); (case bw_tp_val => intro _; rfl); (case' vx_tp_val => walk_at "ep")))
local macro_rules | `(tactic| walk_at "wt") => `(tactic| first
  | ((with_reducible refine' wt_and ?ba_wt_and ?bb_wt_and); (case' ba_wt_and => walk_at "tp"); (case' bb_wt_and => intro hh; (try simp only [decide_eq_true_eq, decide_eq_false_iff_not, Bool.not_eq_true', Bool.not_eq_false'] at hh); walk_at "wt"))
  | ((with_reducible refine' wt_or ?ba_wt_or ?bb_wt_or); (case' ba_wt_or => walk_at "tp"); (case' bb_wt_or => intro hh; (try simp only [decide_eq_true_eq, decide_eq_false_iff_not, Bool.not_eq_true', Bool.not_eq_false'] at hh); walk_at "wt"))
  | ((with_reducible refine' wt_and1 ?ba_wt_and1); (case' ba_wt_and1 => walk_at "tp"))
  | ((with_reducible refine' wt_or1 ?ba_wt_or1); (case' ba_wt_or1 => walk_at "tp")))
local macro_rules | `(tactic| walk_at "set") => `(tactic| (refine' ws_set (by assumption) (by assumption) (by assumption) ?s1 ?sd ?s2 ?s3 ?s4 ?s5 ?a1; (case a1 => rfl); (case s1 => walk_at "sel"); (case sd => first | rfl | assumption); (case s2 => walk_at "vis"); (case' s3 => walk_at "ep"); (case s4 => walk_at "nrm"); (case' s5 => intro _ _ _ _)))
local macro_rules | `(tactic| walk_at "own") => `(tactic| (refine' ws_own (by assumption) (by assumption) (by assumption) ?s1 ?sd ?s2 ?s3 ?s4 ?s5 ?a1; (case a1 => rfl); (case s1 => walk_at "sel"); (case sd => first | rfl | assumption); (case s2 => walk_at "vis"); (case' s3 => walk_at "np"); (case s4 => walk_at "nrm"); (case' s5 => intro _ _ _ _ _ _)))
local macro_rules | `(tactic| walk_at "ret") => `(tactic| (refine' ws_retP (by assumption) ?s1 ?s2; (case' s1 => walk_at "ep")))
local macro_rules | `(tactic| walk_at "if") => `(tactic| (refine' ws_if (by assumption) ?s1 ?s2 ?s3; (case s1 => walk_at "tp"); (case' s3 => intro _ _ _ _); (case' s2 => intro _ _ _ _)))
local macro_rules | `(tactic| walk_at "app") => `(tactic| (refine' ws_append (by assumption) (by assumption) ?s1 ?s2 ?s3 ?sl ?s4 ?s5 ?a1 ?a2 ?a3 ?a4 ?a5; (case a1 => rfl); (case a2 => rfl); (case a3 => rfl); (case a4 => walk_at "vis"); (case a5 => walk_at "vis"); (case s1 => walk_at "sel"); (case s2 => walk_at "vis"); (case' s3 => walk_at "ep"); (case s4 => walk_at "nrm"); (case' s5 => intro _ _ _ _)))
local macro_rules | `(tactic| walk_at "extd") => `(tactic| (refine' ws_extend (by assumption) (by assumption) ?s1 ?s2 ?s3 ?sl ?s4 ?s5 ?a1 ?a2 ?a3 ?a4 ?a5; (case a1 => rfl); (case a2 => rfl); (case a3 => rfl); (case a4 => walk_at "vis"); (case a5 => walk_at "vis"); (case s1 => walk_at "sel"); (case s2 => walk_at "vis"); (case' s3 => walk_at "lp"); (case s4 => walk_at "nrm"); (case' s5 => intro _ _ _ _)))
local macro_rules | `(tactic| walk_at "inc") => `(tactic| (refine' ws_aug (by assumption) (by assumption) (by assumption) ?s1 ?s2 ?s3 ip_add ?sz ?s4 ?s5; (case s1 => walk_at "sel"); (case s2 => walk_at "vis"); (case' s3 => walk_at "ep"); (case sz => rfl); (case s4 => walk_at "nrm"); (case' s5 => intro _ _ _ _)))
local macro_rules | `(tactic| walk_at "frz") => `(tactic| (refine' ws_freeze (by assumption) ?f1 ?f4 ?f5; (case f1 => repeat (first | with_reducible exact Kx.here | with_reducible apply Kx.there)); (case f4 => walk_at "nrm"); (case' f5 => intro _ _ _)))
local macro_rules | `(tactic| walk_at "setlc") => `(tactic| first
  | (refine' ws_setLc (by assumption) (by assumption) (by assumption) ?s1 ?sd ?s2 ?s6 ?s3 ?s7 ?s8 ?s9 ?s4 ?s5; (case s1 => walk_at "sel"); (case sd => first | rfl | assumption); (case s2 => walk_at "vis"); (case s6 => rfl); (case s7 => rfl); (case s8 => walk_at "vis"); (case s9 => intro _; rfl); (case' s3 => walk_at "cp"); (case s4 => walk_at "nrm"); (case' s5 => intro _ _ _ _))
  | (refine' ws_setLcC (by assumption) (by assumption) (by assumption) ?s1 ?sd ?s2 ?s3 ?s9 ?s4 ?s5; (case s1 => walk_at "sel"); (case sd => first | rfl | assumption); (case s2 => walk_at "vis"); (case s9 => intro _; rfl); (case' s3 => walk_at "cp"); (case s4 => walk_at "nrm"); (case' s5 => intro _ _ _ _)))
local macro_rules | `(tactic| walk_at "ownlc") => `(tactic| first
  | (refine' ws_ownLc (by assumption) (by assumption) (by assumption) ?s1 ?sd ?s2 ?s6 ?s3 ?s7 ?s8 ?s9 ?s4 ?s5; (case s1 => walk_at "sel"); (case sd => first | rfl | assumption); (case s2 => walk_at "vis"); (case s6 => rfl); (case s7 => rfl); (case s8 => walk_at "vis"); (case s9 => intro _; rfl); (case' s3 => walk_at "cp"); (case s4 => walk_at "nrm"); (case' s5 => intro _ _ _ _ _ _)))
local macro_rules | `(tactic| walk_at "two") => `(tactic| (refine' ep_setTwo (by assumption) (by assumption) (by assumption) ?s1 ?sd ?s2 ?t1 ?td ?t2 ?tn ?s3 ?s6 ?s7 ?s4 ?s5 ?s8 ?s9; (case s7 => rfl); (case s8 => rfl); (case s9 => rfl); (case s1 => walk_at "sel"); (case sd => first | rfl | assumption); (case s2 => walk_at "vis"); (case t1 => walk_at "sel"); (case td => first | rfl | assumption); (case t2 => walk_at "vis"); (case tn => decide); (case' s3 => walk_at "ep")))
local macro_rules | `(tactic| walk_at "twoL") => `(tactic| (refine' ep_setTwoL (by assumption) (by assumption) (by assumption) ?s1 ?sd ?s2 ?t1 ?td ?t2 ?tn ?s3 ?s6 ?s7 ?s4 ?s5 ?s8 ?s9; (case s7 => rfl); (case s8 => rfl); (case s9 => rfl); (case s1 => walk_at "sel"); (case sd => first | rfl | assumption); (case s2 => walk_at "vis"); (case t1 => walk_at "sel"); (case td => first | rfl | assumption); (case t2 => walk_at "vis"); (case tn => decide); (case' s3 => walk_at "ep")))

def isIntD : PyData → Bool
  | .int _ => true
  | _ => false
def cellAt (ns : List Int) (j : Int) : Int := if j < ns.length then ns.getD j.toNat 0 else 0
def mixI (c q n : Int) : Int := c * 48271 % q % n
def R_whole : List Ar → PyData → Prop := fun ars d => ∃ (a : PyData), ars = [.dat a] ∧ d = .bool (isIntD a)
theorem c_whole {X : Cx} {M : Md} {F : Fr} {N : List Str} {sc : Scope} {kk k : Nat} {Γ : List Kd} {p pos : Pos} {a : PyData} (C : Cok X M F N sc kk) (h : FnA M k "_law_whole" R_whole) (hk : k ≤ kk) (hg : sc.names.lookup ("_law_whole" : Str) = some .globalImplicit) {e0 : Expr} (a0 : EP X F Γ e0 a) (l0 : plainE e0 = true)  :
    EP X F Γ (.Call (.Name "_law_whole" p) [e0] [] pos) (.bool (isIntD a)) := by
  exact ep_call C h hk hg (arp_dat a0 arp_nil l0) ⟨a, rfl, rfl⟩ (l0) rfl (by decide +kernel)
def R_cell : List Ar → PyData → Prop := fun ars d => ∃ (ns : List Int) (j : Int), ars = [.scr ns, .dat (.int j)] ∧ (0 ≤ j) ∧ d = .int (cellAt ns j)
theorem c_cell {X : Cx} {M : Md} {F : Fr} {N : List Str} {sc : Scope} {kk k : Nat} {Γ : List Kd} {p pos : Pos} {ns : List Int} {j : Int} (C : Cok X M F N sc kk) (h : FnA M k "_law_cell_at" R_cell) (hk : k ≤ kk) (hg : sc.names.lookup ("_law_cell_at" : Str) = some .globalImplicit) {x0 : Str} {i0 : Nat} {p0 : Pos} (a0 : Sel N Γ x0 i0 (.arg (.scr ns))) (v0 : Vis sc x0) (d0 : (x0 == ("__debug__" : Str)) = false) (c0 : (x0 == ("__classdict__" : Str)) = false) {e1 : Expr} (a1 : EP X F Γ e1 (.int j)) (l1 : plainE e1 = true) (h0 : 0 ≤ j) :
    EP X F Γ (.Call (.Name "_law_cell_at" p) [.Name x0 p0, e1] [] pos) (.int (cellAt ns j)) := by
  exact ep_call C h hk hg (arp_arg C a0 v0 (arp_dat a1 arp_nil l1) d0 c0) ⟨ns, j, rfl, h0, rfl⟩ (rfl) (by simp only [List.all_cons, List.all_nil, Bool.and_true, Bool.and_eq_true]; exact l1) (by decide +kernel)
def R_mix : List Ar → PyData → Prop := fun ars d => ∃ (c : Int) (q : Int) (n : Int), ars = [.dat (.int c), .dat (.int q), .dat (.int n)] ∧ (0 < q) ∧ (0 < n) ∧ d = .int (mixI c q n)
theorem c_mix {X : Cx} {M : Md} {F : Fr} {N : List Str} {sc : Scope} {kk k : Nat} {Γ : List Kd} {p pos : Pos} {c : Int} {q : Int} {n : Int} (C : Cok X M F N sc kk) (h : FnA M k "_law_mix" R_mix) (hk : k ≤ kk) (hg : sc.names.lookup ("_law_mix" : Str) = some .globalImplicit) {e0 : Expr} (a0 : EP X F Γ e0 (.int c)) (l0 : plainE e0 = true) {e1 : Expr} (a1 : EP X F Γ e1 (.int q)) (l1 : plainE e1 = true) {e2 : Expr} (a2 : EP X F Γ e2 (.int n)) (l2 : plainE e2 = true) (h0 : 0 < q) (h1 : 0 < n) :
    EP X F Γ (.Call (.Name "_law_mix" p) [e0, e1, e2] [] pos) (.int (mixI c q n)) := by
  exact ep_call C h hk hg (arp_dat a0 (arp_dat a1 (arp_dat a2 arp_nil l2) l1) l0) ⟨c, q, n, rfl, h0, h1, rfl⟩ (l0) (by simp only [List.all_cons, List.all_nil, Bool.and_true, Bool.and_eq_true]; exact ⟨l1, l2⟩) (by decide +kernel)
local macro_rules | `(tactic| walk_at "call") => `(tactic| ((with_reducible refine' c_whole (by assumption) (by assumption) ?g0_c_whole ?g1_c_whole ?a0_c_whole ?l0_c_whole); (case g0_c_whole => first | assumption | omega | decide); (case g1_c_whole => walk_at "vis"); (case l0_c_whole => rfl); (case' a0_c_whole => walk_at "ep")))
local macro_rules | `(tactic| walk_at "call") => `(tactic| ((with_reducible refine' c_cell (by assumption) (by assumption) ?g0_c_cell ?g1_c_cell ?a0_c_cell ?v0_c_cell ?d0_c_cell ?c0_c_cell ?a1_c_cell ?l1_c_cell ?h0_c_cell); (case g0_c_cell => first | assumption | omega | decide); (case g1_c_cell => walk_at "vis"); (case a0_c_cell => walk_at "sel"); (case v0_c_cell => walk_at "vis"); (case d0_c_cell => walk_at "vis"); (case c0_c_cell => walk_at "vis"); (case l1_c_cell => rfl); (case' a1_c_cell => walk_at "ep"); (case' h0_c_cell => first | omega | assumption | skip)))
local macro_rules | `(tactic| walk_at "call") => `(tactic| ((with_reducible refine' c_mix (by assumption) (by assumption) ?g0_c_mix ?g1_c_mix ?a0_c_mix ?l0_c_mix ?a1_c_mix ?l1_c_mix ?a2_c_mix ?l2_c_mix ?h0_c_mix ?h1_c_mix); (case g0_c_mix => first | assumption | omega | decide); (case g1_c_mix => walk_at "vis"); (case l0_c_mix => rfl); (case' a0_c_mix => walk_at "ep"); (case l1_c_mix => rfl); (case' a1_c_mix => walk_at "ep"); (case l2_c_mix => rfl); (case' a2_c_mix => walk_at "ep"); (case' h0_c_mix => first | omega | assumption | skip); (case' h1_c_mix => first | omega | assumption | skip)))
def mixedM (c j : Int) : Int := (c + 7919 * j + 11) * 48271 % 2147483647
def mixedI (c j n : Int) : Int := mixedM c j * mixedM c j % 1000003 / 7 % n
def bitsI (c w : Int) : List Int := (List.range w.toNat).map fun (j : Nat) => mixedI c (j : Int) 2
def sumI (vs : List (List Int)) (w : Int) : List Int := (List.range w.toNat).map fun (j : Nat) => (vs.map fun v => v.getD ((j : Int)).toNat 0).sum % 2
def manyI (a : Int) : Int := [1 + mixI a 10079 7, 1 + mixI a 10079 7, 1 + mixI a 10091 24].getD (mixI a 10103 3).toNat 0
def wideI (b : Int) : Int := [1 + mixI b 10093 4, 1 + mixI b 10099 32].getD (mixI b 10111 2).toNat 0
def risesF (last n : Int) : List Int → Bool
  | [] => true
  | p :: r => if p ≤ last ∨ n ≤ p then false else risesF p n r
def valI (L : List (List Int)) (ps : List Int) : List Int := ps.foldl (fun t p => List.zipWith Builtin.bitXor t (L.getD p.toNat [])) (List.replicate (L.getD 0 []).length 0)
def drawSt (x0 : Int) : Nat → Int × List Int
  | 0 => (x0, [])
  | j + 1 => ((75 * (drawSt x0 j).1 + 74) % 65537, if (75 * (drawSt x0 j).1 + 74) % 65537 % 5 < 2 then (drawSt x0 j).2 ++ [(j : Int)] else (drawSt x0 j).2)
def drawI (n : Int) (m : Nat) : List Int := if (drawSt (48271 * (n + 1) % 65537) m).2 = [] then [n % (m : Int)] else (drawSt (48271 * (n + 1) % 65537) m).2
def R_mixed : List Ar → PyData → Prop := fun ars d => ∃ (c : Int) (j : Int) (n : Int), ars = [.dat (.int c), .dat (.int j), .dat (.int n)] ∧ (0 < n) ∧ d = .int (mixedI c j n)
theorem c_mixed {X : Cx} {M : Md} {F : Fr} {N : List Str} {sc : Scope} {kk k : Nat} {Γ : List Kd} {p pos : Pos} {c : Int} {j : Int} {n : Int} (C : Cok X M F N sc kk) (h : FnA M k "_law_mixed" R_mixed) (hk : k ≤ kk) (hg : sc.names.lookup ("_law_mixed" : Str) = some .globalImplicit) {e0 : Expr} (a0 : EP X F Γ e0 (.int c)) (l0 : plainE e0 = true) {e1 : Expr} (a1 : EP X F Γ e1 (.int j)) (l1 : plainE e1 = true) {e2 : Expr} (a2 : EP X F Γ e2 (.int n)) (l2 : plainE e2 = true) (h0 : 0 < n) :
    EP X F Γ (.Call (.Name "_law_mixed" p) [e0, e1, e2] [] pos) (.int (mixedI c j n)) := by
  exact ep_call C h hk hg (arp_dat a0 (arp_dat a1 (arp_dat a2 arp_nil l2) l1) l0) ⟨c, j, n, rfl, h0, rfl⟩ (l0) (by simp only [List.all_cons, List.all_nil, Bool.and_true, Bool.and_eq_true]; exact ⟨l1, l2⟩) (by decide +kernel)
def R_bits : List Ar → PyData → Prop := fun ars d => ∃ (c : Int) (w : Int), ars = [.dat (.int c), .dat (.int w)] ∧ (0 ≤ w) ∧ (w ≤ 1000) ∧ d = tupI (bitsI c w)
theorem c_bits {X : Cx} {M : Md} {F : Fr} {N : List Str} {sc : Scope} {kk k : Nat} {Γ : List Kd} {p pos : Pos} {c : Int} {w : Int} (C : Cok X M F N sc kk) (h : FnA M k "_law_bits" R_bits) (hk : k ≤ kk) (hg : sc.names.lookup ("_law_bits" : Str) = some .globalImplicit) {e0 : Expr} (a0 : EP X F Γ e0 (.int c)) (l0 : plainE e0 = true) {e1 : Expr} (a1 : EP X F Γ e1 (.int w)) (l1 : plainE e1 = true) (h0 : 0 ≤ w) (h1 : w ≤ 1000) :
    EP X F Γ (.Call (.Name "_law_bits" p) [e0, e1] [] pos) (tupI (bitsI c w)) := by
  exact ep_call C h hk hg (arp_dat a0 (arp_dat a1 arp_nil l1) l0) ⟨c, w, rfl, h0, h1, rfl⟩ (l0) (by simp only [List.all_cons, List.all_nil, Bool.and_true, Bool.and_eq_true]; exact l1) (by decide +kernel)
def R_sum : List Ar → PyData → Prop := fun ars d => ∃ (vs : List (List Int)) (w : Int), ars = [.lst (vs.map tupI), .dat (.int w)] ∧ (0 ≤ w) ∧ (w ≤ 1000) ∧ (∀ v ∈ vs, w ≤ v.length) ∧ d = tupI (sumI vs w)
theorem c_sum {X : Cx} {M : Md} {F : Fr} {N : List Str} {sc : Scope} {kk k : Nat} {Γ : List Kd} {p pos : Pos} {vs : List (List Int)} {w : Int} (C : Cok X M F N sc kk) (h : FnA M k "_law_sum" R_sum) (hk : k ≤ kk) (hg : sc.names.lookup ("_law_sum" : Str) = some .globalImplicit) {e0 : Expr} (a0 : LP X F Γ e0 (vs.map tupI)) (l0 : plainE e0 = true) {e1 : Expr} (a1 : EP X F Γ e1 (.int w)) (l1 : plainE e1 = true) (h0 : 0 ≤ w) (h1 : w ≤ 1000) (h2 : ∀ v ∈ vs, w ≤ v.length) :
    EP X F Γ (.Call (.Name "_law_sum" p) [e0, e1] [] pos) (tupI (sumI vs w)) := by
  exact ep_call C h hk hg (arp_lst a0 (arp_dat a1 arp_nil l1) l0) ⟨vs, w, rfl, h0, h1, h2, rfl⟩ (l0) (by simp only [List.all_cons, List.all_nil, Bool.and_true, Bool.and_eq_true]; exact l1) (by decide +kernel)
def R_sizes : List Ar → PyData → Prop := fun ars d => ∃ (a : Int) (b : Int), ars = [.dat (.int a), .dat (.int b)] ∧ d = .list [.int (manyI a), .int (wideI b)]
theorem c_sizes {X : Cx} {M : Md} {F : Fr} {N : List Str} {sc : Scope} {kk k : Nat} {Γ : List Kd} {p pos : Pos} {a : Int} {b : Int} (C : Cok X M F N sc kk) (h : FnA M k "_law_sizes" R_sizes) (hk : k ≤ kk) (hg : sc.names.lookup ("_law_sizes" : Str) = some .globalImplicit) {e0 : Expr} (a0 : EP X F Γ e0 (.int a)) (l0 : plainE e0 = true) {e1 : Expr} (a1 : EP X F Γ e1 (.int b)) (l1 : plainE e1 = true)  :
    EP X F Γ (.Call (.Name "_law_sizes" p) [e0, e1] [] pos) (.list [.int (manyI a), .int (wideI b)]) := by
  exact ep_call C h hk hg (arp_dat a0 (arp_dat a1 arp_nil l1) l0) ⟨a, b, rfl, rfl⟩ (l0) (by simp only [List.all_cons, List.all_nil, Bool.and_true, Bool.and_eq_true]; exact l1) (by decide +kernel)
def R_added : List Ar → PyData → Prop := fun ars d => ∃ (xs : List Int) (ys : List Int), ars = [.dat (tupI xs), .dat (tupI ys)] ∧ (xs.length = ys.length) ∧ d = tupI (List.zipWith Builtin.bitXor xs ys)
theorem c_added {X : Cx} {M : Md} {F : Fr} {N : List Str} {sc : Scope} {kk k : Nat} {Γ : List Kd} {p pos : Pos} {xs : List Int} {ys : List Int} (C : Cok X M F N sc kk) (h : FnA M k "added" R_added) (hk : k ≤ kk) (hg : sc.names.lookup ("added" : Str) = some .globalImplicit) {e0 : Expr} (a0 : EP X F Γ e0 (tupI xs)) (l0 : plainE e0 = true) {e1 : Expr} (a1 : EP X F Γ e1 (tupI ys)) (l1 : plainE e1 = true) (h0 : xs.length = ys.length) :
    EP X F Γ (.Call (.Name "added" p) [e0, e1] [] pos) (tupI (List.zipWith Builtin.bitXor xs ys)) := by
  exact ep_call C h hk hg (arp_dat a0 (arp_dat a1 arp_nil l1) l0) ⟨xs, ys, rfl, h0, rfl⟩ (l0) (by simp only [List.all_cons, List.all_nil, Bool.and_true, Bool.and_eq_true]; exact l1) (by decide +kernel)
def R_rises : List Ar → PyData → Prop := fun ars d => ∃ (ps : List Int) (n : Int), ars = [.lst (ps.map .int), .dat (.int n)] ∧ d = .bool (risesF (-1) n ps)
theorem c_rises {X : Cx} {M : Md} {F : Fr} {N : List Str} {sc : Scope} {kk k : Nat} {Γ : List Kd} {p pos : Pos} {ps : List Int} {n : Int} (C : Cok X M F N sc kk) (h : FnA M k "rising_within" R_rises) (hk : k ≤ kk) (hg : sc.names.lookup ("rising_within" : Str) = some .globalImplicit) {e0 : Expr} (a0 : LP X F Γ e0 (ps.map .int)) (l0 : plainE e0 = true) {e1 : Expr} (a1 : EP X F Γ e1 (.int n)) (l1 : plainE e1 = true)  :
    EP X F Γ (.Call (.Name "rising_within" p) [e0, e1] [] pos) (.bool (risesF (-1) n ps)) := by
  exact ep_call C h hk hg (arp_lst a0 (arp_dat a1 arp_nil l1) l0) ⟨ps, n, rfl, rfl⟩ (l0) (by simp only [List.all_cons, List.all_nil, Bool.and_true, Bool.and_eq_true]; exact l1) (by decide +kernel)
def R_valof : List Ar → PyData → Prop := fun ars d => ∃ (L : List (List Int)) (ps : List Int), ars = [.lst (L.map tupI), .lst (ps.map .int)] ∧ (risesF (-1) L.length ps = true) ∧ (L ≠ []) ∧ (∀ v ∈ L, v.length = (L.getD 0 []).length) ∧ (1 ≤ (L.getD 0 []).length) ∧ ((L.getD 0 []).length ≤ 1000) ∧ d = tupI (valI L ps)
theorem c_valof {X : Cx} {M : Md} {F : Fr} {N : List Str} {sc : Scope} {kk k : Nat} {Γ : List Kd} {p pos : Pos} {L : List (List Int)} {ps : List Int} (C : Cok X M F N sc kk) (h : FnA M k "value_of" R_valof) (hk : k ≤ kk) (hg : sc.names.lookup ("value_of" : Str) = some .globalImplicit) {e0 : Expr} (a0 : LP X F Γ e0 (L.map tupI)) (l0 : plainE e0 = true) {e1 : Expr} (a1 : LP X F Γ e1 (ps.map .int)) (l1 : plainE e1 = true) (h0 : risesF (-1) L.length ps = true) (h1 : L ≠ []) (h2 : ∀ v ∈ L, v.length = (L.getD 0 []).length) (h3 : 1 ≤ (L.getD 0 []).length) (h4 : (L.getD 0 []).length ≤ 1000) :
    EP X F Γ (.Call (.Name "value_of" p) [e0, e1] [] pos) (tupI (valI L ps)) := by
  exact ep_call C h hk hg (arp_lst a0 (arp_lst a1 arp_nil l1) l0) ⟨L, ps, rfl, h0, h1, h2, h3, h4, rfl⟩ (l0) (by simp only [List.all_cons, List.all_nil, Bool.and_true, Bool.and_eq_true]; exact l1) (by decide +kernel)
def R_drawn : List Ar → PyData → Prop := fun ars d => ∃ (n : Int) (m : Int), ars = [.dat (.int n), .dat (.int m)] ∧ (1 ≤ m) ∧ (m ≤ 1000) ∧ d = .list ((drawI n m.toNat).map .int)
theorem c_drawn {X : Cx} {M : Md} {F : Fr} {N : List Str} {sc : Scope} {kk k : Nat} {Γ : List Kd} {p pos : Pos} {n : Int} {m : Int} (C : Cok X M F N sc kk) (h : FnA M k "drawn" R_drawn) (hk : k ≤ kk) (hg : sc.names.lookup ("drawn" : Str) = some .globalImplicit) {e0 : Expr} (a0 : EP X F Γ e0 (.int n)) (l0 : plainE e0 = true) {e1 : Expr} (a1 : EP X F Γ e1 (.int m)) (l1 : plainE e1 = true) (h0 : 1 ≤ m) (h1 : m ≤ 1000) :
    EP X F Γ (.Call (.Name "drawn" p) [e0, e1] [] pos) (.list ((drawI n m.toNat).map .int)) := by
  exact ep_call C h hk hg (arp_dat a0 (arp_dat a1 arp_nil l1) l0) ⟨n, m, rfl, h0, h1, rfl⟩ (l0) (by simp only [List.all_cons, List.all_nil, Bool.and_true, Bool.and_eq_true]; exact l1) (by decide +kernel)
def R_parcel : List Ar → PyData → Prop := fun ars d => ∃ (L : List (List Int)) (n : Int), ars = [.lst (L.map tupI), .dat (.int n)] ∧ (L ≠ []) ∧ (L.length ≤ 1000) ∧ (∀ v ∈ L, v.length = (L.getD 0 []).length) ∧ (1 ≤ (L.getD 0 []).length) ∧ ((L.getD 0 []).length ≤ 1000) ∧ d = .tuple [.list ((drawI n L.length).map .int), tupI (valI L (drawI n L.length))]
theorem c_parcel {X : Cx} {M : Md} {F : Fr} {N : List Str} {sc : Scope} {kk k : Nat} {Γ : List Kd} {p pos : Pos} {L : List (List Int)} {n : Int} (C : Cok X M F N sc kk) (h : FnA M k "parcel" R_parcel) (hk : k ≤ kk) (hg : sc.names.lookup ("parcel" : Str) = some .globalImplicit) {e0 : Expr} (a0 : LP X F Γ e0 (L.map tupI)) (l0 : plainE e0 = true) {e1 : Expr} (a1 : EP X F Γ e1 (.int n)) (l1 : plainE e1 = true) (h0 : L ≠ []) (h1 : L.length ≤ 1000) (h2 : ∀ v ∈ L, v.length = (L.getD 0 []).length) (h3 : 1 ≤ (L.getD 0 []).length) (h4 : (L.getD 0 []).length ≤ 1000) :
    EP X F Γ (.Call (.Name "parcel" p) [e0, e1] [] pos) (.tuple [.list ((drawI n L.length).map .int), tupI (valI L (drawI n L.length))]) := by
  exact ep_call C h hk hg (arp_lst a0 (arp_dat a1 arp_nil l1) l0) ⟨L, n, rfl, h0, h1, h2, h3, h4, rfl⟩ (l0) (by simp only [List.all_cons, List.all_nil, Bool.and_true, Bool.and_eq_true]; exact l1) (by decide +kernel)
local macro_rules | `(tactic| walk_at "call") => `(tactic| ((with_reducible refine' c_mixed (by assumption) (by assumption) ?g0_c_mixed ?g1_c_mixed ?a0_c_mixed ?l0_c_mixed ?a1_c_mixed ?l1_c_mixed ?a2_c_mixed ?l2_c_mixed ?h0_c_mixed); (case g0_c_mixed => first | assumption | omega | decide); (case g1_c_mixed => walk_at "vis"); (case l0_c_mixed => rfl); (case' a0_c_mixed => walk_at "ep"); (case l1_c_mixed => rfl); (case' a1_c_mixed => walk_at "ep"); (case l2_c_mixed => rfl); (case' a2_c_mixed => walk_at "ep"); (case' h0_c_mixed => first | omega | assumption | skip)))
local macro_rules | `(tactic| walk_at "call") => `(tactic| ((with_reducible refine' c_bits (by assumption) (by assumption) ?g0_c_bits ?g1_c_bits ?a0_c_bits ?l0_c_bits ?a1_c_bits ?l1_c_bits ?h0_c_bits ?h1_c_bits); (case g0_c_bits => first | assumption | omega | decide); (case g1_c_bits => walk_at "vis"); (case l0_c_bits => rfl); (case' a0_c_bits => walk_at "ep"); (case l1_c_bits => rfl); (case' a1_c_bits => walk_at "ep"); (case' h0_c_bits => first | omega | assumption | skip); (case' h1_c_bits => first | omega | assumption | skip)))
local macro_rules | `(tactic| walk_at "call") => `(tactic| ((with_reducible refine' c_sum (by assumption) (by assumption) ?g0_c_sum ?g1_c_sum ?a0_c_sum ?l0_c_sum ?a1_c_sum ?l1_c_sum ?h0_c_sum ?h1_c_sum ?h2_c_sum); (case g0_c_sum => first | assumption | omega | decide); (case g1_c_sum => walk_at "vis"); (case l0_c_sum => rfl); (case' a0_c_sum => walk_at "lp"); (case l1_c_sum => rfl); (case' a1_c_sum => walk_at "ep"); (case' h0_c_sum => first | omega | assumption | skip); (case' h1_c_sum => first | omega | assumption | skip); (case' h2_c_sum => first | omega | assumption | skip)))
local macro_rules | `(tactic| walk_at "call") => `(tactic| ((with_reducible refine' c_sizes (by assumption) (by assumption) ?g0_c_sizes ?g1_c_sizes ?a0_c_sizes ?l0_c_sizes ?a1_c_sizes ?l1_c_sizes); (case g0_c_sizes => first | assumption | omega | decide); (case g1_c_sizes => walk_at "vis"); (case l0_c_sizes => rfl); (case' a0_c_sizes => walk_at "ep"); (case l1_c_sizes => rfl); (case' a1_c_sizes => walk_at "ep")))
local macro_rules | `(tactic| walk_at "call") => `(tactic| ((with_reducible refine' c_added (by assumption) (by assumption) ?g0_c_added ?g1_c_added ?a0_c_added ?l0_c_added ?a1_c_added ?l1_c_added ?h0_c_added); (case g0_c_added => first | assumption | omega | decide); (case g1_c_added => walk_at "vis"); (case l0_c_added => rfl); (case' a0_c_added => walk_at "ep"); (case l1_c_added => rfl); (case' a1_c_added => walk_at "ep"); (case' h0_c_added => first | omega | assumption | skip)))
local macro_rules | `(tactic| walk_at "call") => `(tactic| ((with_reducible refine' c_rises (by assumption) (by assumption) ?g0_c_rises ?g1_c_rises ?a0_c_rises ?l0_c_rises ?a1_c_rises ?l1_c_rises); (case g0_c_rises => first | assumption | omega | decide); (case g1_c_rises => walk_at "vis"); (case l0_c_rises => rfl); (case' a0_c_rises => walk_at "lp"); (case l1_c_rises => rfl); (case' a1_c_rises => walk_at "ep")))
local macro_rules | `(tactic| walk_at "call") => `(tactic| ((with_reducible refine' c_valof (by assumption) (by assumption) ?g0_c_valof ?g1_c_valof ?a0_c_valof ?l0_c_valof ?a1_c_valof ?l1_c_valof ?h0_c_valof ?h1_c_valof ?h2_c_valof ?h3_c_valof ?h4_c_valof); (case g0_c_valof => first | assumption | omega | decide); (case g1_c_valof => walk_at "vis"); (case l0_c_valof => rfl); (case' a0_c_valof => walk_at "lp"); (case l1_c_valof => rfl); (case' a1_c_valof => walk_at "lp"); (case' h0_c_valof => first | omega | assumption | skip); (case' h1_c_valof => first | omega | assumption | skip); (case' h2_c_valof => first | omega | assumption | skip); (case' h3_c_valof => first | omega | assumption | skip); (case' h4_c_valof => first | omega | assumption | skip)))
local macro_rules | `(tactic| walk_at "call") => `(tactic| ((with_reducible refine' c_drawn (by assumption) (by assumption) ?g0_c_drawn ?g1_c_drawn ?a0_c_drawn ?l0_c_drawn ?a1_c_drawn ?l1_c_drawn ?h0_c_drawn ?h1_c_drawn); (case g0_c_drawn => first | assumption | omega | decide); (case g1_c_drawn => walk_at "vis"); (case l0_c_drawn => rfl); (case' a0_c_drawn => walk_at "ep"); (case l1_c_drawn => rfl); (case' a1_c_drawn => walk_at "ep"); (case' h0_c_drawn => first | omega | assumption | skip); (case' h1_c_drawn => first | omega | assumption | skip)))
local macro_rules | `(tactic| walk_at "call") => `(tactic| ((with_reducible refine' c_parcel (by assumption) (by assumption) ?g0_c_parcel ?g1_c_parcel ?a0_c_parcel ?l0_c_parcel ?a1_c_parcel ?l1_c_parcel ?h0_c_parcel ?h1_c_parcel ?h2_c_parcel ?h3_c_parcel ?h4_c_parcel); (case g0_c_parcel => first | assumption | omega | decide); (case g1_c_parcel => walk_at "vis"); (case l0_c_parcel => rfl); (case' a0_c_parcel => walk_at "lp"); (case l1_c_parcel => rfl); (case' a1_c_parcel => walk_at "ep"); (case' h0_c_parcel => first | omega | assumption | skip); (case' h1_c_parcel => first | omega | assumption | skip); (case' h2_c_parcel => first | omega | assumption | skip); (case' h3_c_parcel => first | omega | assumption | skip); (case' h4_c_parcel => first | omega | assumption | skip)))
def setI (c n : Int) : List Int := if mixI c 10037 4 = 0 then [mixI c 10067 n] else if mixI c 10037 4 = 1 then rise [mixI c 10067 n, mixI c 10069 n] else ((List.range n.toNat).filter fun (j : Nat) => decide (mixedI c (40 + (j : Int)) 2 = 1)).map fun (j : Nat) => (j : Int)
def oddAt (ps : List Int) (c : Int) : Nat := (mixI c 10133 ((ps.length : Int) + 1)).toNat
def oddLs (ps : List Int) (n c : Int) : List (List Int) := [ps.take (oddAt ps c) ++ [n] ++ ps.drop (oddAt ps c), ps.take (oddAt ps c) ++ [-1] ++ ps.drop (oddAt ps c), ps ++ [n + c % 10 ^ (9 : Int).toNat], ps.take (oddAt ps c) ++ [0, 0] ++ ps.drop (oddAt ps c), [n - 1] ++ ps ++ [0, 0]]
def oddL (ps : List Int) (n c : Int) : List Int := (oddLs ps n c).getD (mixI c 10139 5).toNat []
def R_set : List Ar → PyData → Prop := fun ars d => ∃ (c : Int) (n : Int), ars = [.dat (.int c), .dat (.int n)] ∧ (1 ≤ n) ∧ (n ≤ 1000) ∧ d = .list ((setI c n).map .int)
theorem c_set {X : Cx} {M : Md} {F : Fr} {N : List Str} {sc : Scope} {kk k : Nat} {Γ : List Kd} {p pos : Pos} {c : Int} {n : Int} (C : Cok X M F N sc kk) (h : FnA M k "_law_set" R_set) (hk : k ≤ kk) (hg : sc.names.lookup ("_law_set" : Str) = some .globalImplicit) {e0 : Expr} (a0 : EP X F Γ e0 (.int c)) (l0 : plainE e0 = true) {e1 : Expr} (a1 : EP X F Γ e1 (.int n)) (l1 : plainE e1 = true) (h0 : 1 ≤ n) (h1 : n ≤ 1000) :
    EP X F Γ (.Call (.Name "_law_set" p) [e0, e1] [] pos) (.list ((setI c n).map .int)) := by
  exact ep_call C h hk hg (arp_dat a0 (arp_dat a1 arp_nil l1) l0) ⟨c, n, rfl, h0, h1, rfl⟩ (l0) (by simp only [List.all_cons, List.all_nil, Bool.and_true, Bool.and_eq_true]; exact l1) (by decide +kernel)
def R_value : List Ar → PyData → Prop := fun ars d => ∃ (xs : List Int) (w : Int), ars = [.dat (tupI xs), .dat (.int w)] ∧ d = .bool (decide ((xs.length : Int) = w))
theorem c_value {X : Cx} {M : Md} {F : Fr} {N : List Str} {sc : Scope} {kk k : Nat} {Γ : List Kd} {p pos : Pos} {xs : List Int} {w : Int} (C : Cok X M F N sc kk) (h : FnA M k "_law_value" R_value) (hk : k ≤ kk) (hg : sc.names.lookup ("_law_value" : Str) = some .globalImplicit) {e0 : Expr} (a0 : EP X F Γ e0 (tupI xs)) (l0 : plainE e0 = true) {e1 : Expr} (a1 : EP X F Γ e1 (.int w)) (l1 : plainE e1 = true)  :
    EP X F Γ (.Call (.Name "_law_value" p) [e0, e1] [] pos) (.bool (decide ((xs.length : Int) = w))) := by
  exact ep_call C h hk hg (arp_dat a0 (arp_dat a1 arp_nil l1) l0) ⟨xs, w, rfl, rfl⟩ (l0) (by simp only [List.all_cons, List.all_nil, Bool.and_true, Bool.and_eq_true]; exact l1) (by decide +kernel)
def R_refused : List Ar → PyData → Prop := fun ars d => ∃ (L : List (List Int)) (ps : List Int), ars = [.lst (L.map tupI), .lst (ps.map .int)] ∧ (risesF (-1) L.length ps = false) ∧ d = .bool true
theorem c_refused {X : Cx} {M : Md} {F : Fr} {N : List Str} {sc : Scope} {kk k : Nat} {Γ : List Kd} {p pos : Pos} {L : List (List Int)} {ps : List Int} (C : Cok X M F N sc kk) (h : FnA M k "_law_refused" R_refused) (hk : k ≤ kk) (hg : sc.names.lookup ("_law_refused" : Str) = some .globalImplicit) {e0 : Expr} (a0 : LP X F Γ e0 (L.map tupI)) (l0 : plainE e0 = true) {e1 : Expr} (a1 : LP X F Γ e1 (ps.map .int)) (l1 : plainE e1 = true) (h0 : risesF (-1) L.length ps = false) :
    EP X F Γ (.Call (.Name "_law_refused" p) [e0, e1] [] pos) (.bool true) := by
  exact ep_call C h hk hg (arp_lst a0 (arp_lst a1 arp_nil l1) l0) ⟨L, ps, rfl, h0, rfl⟩ (l0) (by simp only [List.all_cons, List.all_nil, Bool.and_true, Bool.and_eq_true]; exact l1) (by decide +kernel)
def R_oddl : List Ar → PyData → Prop := fun ars d => ∃ (ps : List Int) (n : Int) (c : Int), ars = [.dat (.list (ps.map .int)), .dat (.int n), .dat (.int c)] ∧ (ps.length ≤ 1000) ∧ (1 ≤ n) ∧ d = .list ((oddL ps n c).map .int)
theorem c_oddl {X : Cx} {M : Md} {F : Fr} {N : List Str} {sc : Scope} {kk k : Nat} {Γ : List Kd} {p pos : Pos} {ps : List Int} {n : Int} {c : Int} (C : Cok X M F N sc kk) (h : FnA M k "_law_odd_list" R_oddl) (hk : k ≤ kk) (hg : sc.names.lookup ("_law_odd_list" : Str) = some .globalImplicit) {e0 : Expr} (a0 : EP X F Γ e0 (.list (ps.map .int))) (l0 : plainE e0 = true) {e1 : Expr} (a1 : EP X F Γ e1 (.int n)) (l1 : plainE e1 = true) {e2 : Expr} (a2 : EP X F Γ e2 (.int c)) (l2 : plainE e2 = true) (h0 : ps.length ≤ 1000) (h1 : 1 ≤ n) :
    EP X F Γ (.Call (.Name "_law_odd_list" p) [e0, e1, e2] [] pos) (.list ((oddL ps n c).map .int)) := by
  exact ep_call C h hk hg (arp_dat a0 (arp_dat a1 (arp_dat a2 arp_nil l2) l1) l0) ⟨ps, n, c, rfl, h0, h1, rfl⟩ (l0) (by simp only [List.all_cons, List.all_nil, Bool.and_true, Bool.and_eq_true]; exact ⟨l1, l2⟩) (by decide +kernel)
local macro_rules | `(tactic| walk_at "call") => `(tactic| ((with_reducible refine' c_set (by assumption) (by assumption) ?g0_c_set ?g1_c_set ?a0_c_set ?l0_c_set ?a1_c_set ?l1_c_set ?h0_c_set ?h1_c_set); (case g0_c_set => first | assumption | omega | decide); (case g1_c_set => walk_at "vis"); (case l0_c_set => rfl); (case' a0_c_set => walk_at "ep"); (case l1_c_set => rfl); (case' a1_c_set => walk_at "ep"); (case' h0_c_set => first | omega | assumption | skip); (case' h1_c_set => first | omega | assumption | skip)))
local macro_rules | `(tactic| walk_at "call") => `(tactic| ((with_reducible refine' c_value (by assumption) (by assumption) ?g0_c_value ?g1_c_value ?a0_c_value ?l0_c_value ?a1_c_value ?l1_c_value); (case g0_c_value => first | assumption | omega | decide); (case g1_c_value => walk_at "vis"); (case l0_c_value => rfl); (case' a0_c_value => walk_at "ep"); (case l1_c_value => rfl); (case' a1_c_value => walk_at "ep")))
local macro_rules | `(tactic| walk_at "call") => `(tactic| ((with_reducible refine' c_refused (by assumption) (by assumption) ?g0_c_refused ?g1_c_refused ?a0_c_refused ?l0_c_refused ?a1_c_refused ?l1_c_refused ?h0_c_refused); (case g0_c_refused => first | assumption | omega | decide); (case g1_c_refused => walk_at "vis"); (case l0_c_refused => rfl); (case' a0_c_refused => walk_at "lp"); (case l1_c_refused => rfl); (case' a1_c_refused => walk_at "lp"); (case' h0_c_refused => first | omega | assumption | skip)))
local macro_rules | `(tactic| walk_at "call") => `(tactic| ((with_reducible refine' c_oddl (by assumption) (by assumption) ?g0_c_oddl ?g1_c_oddl ?a0_c_oddl ?l0_c_oddl ?a1_c_oddl ?l1_c_oddl ?a2_c_oddl ?l2_c_oddl ?h0_c_oddl ?h1_c_oddl); (case g0_c_oddl => first | assumption | omega | decide); (case g1_c_oddl => walk_at "vis"); (case l0_c_oddl => rfl); (case' a0_c_oddl => walk_at "ep"); (case l1_c_oddl => rfl); (case' a1_c_oddl => walk_at "ep"); (case l2_c_oddl => rfl); (case' a2_c_oddl => walk_at "ep"); (case' h0_c_oddl => first | omega | assumption | skip); (case' h1_c_oddl => first | omega | assumption | skip)))
def top (i : Nat) : Stmt := PySem.Challenge.pw_rainparcels_k02_sums_of_pieces.main.body.getD i (.Pass ⟨0, 0, 0, 0⟩)
abbrev sAdded : Stmt := top 11
theorem scAdded : FnScope ["one", "other", "bit", "its"] ["one", "other"] (defScope sAdded) := ⟨rfl, rfl, rfl, by decide +kernel, rfl, by decide +kernel, by decide +kernel⟩
abbrev sRises : Stmt := top 12
theorem scRises : FnScope ["places", "many", "last", "place"] ["places", "many"] (defScope sRises) := ⟨rfl, rfl, rfl, by decide +kernel, rfl, by decide +kernel, by decide +kernel⟩
abbrev sValof : Stmt := top 13
theorem scValof : FnScope ["load", "places", "total", "place"] ["load", "places"] (defScope sValof) := ⟨rfl, rfl, rfl, by decide +kernel, rfl, by decide +kernel, by decide +kernel⟩
abbrev sWhole : Stmt := top 15
theorem scWhole : FnScope ["_law_found"] ["_law_found"] (defScope sWhole) := ⟨rfl, rfl, rfl, by decide +kernel, rfl, by decide +kernel, by decide +kernel⟩
abbrev sCell : Stmt := top 16
theorem scCell : FnScope ["_law_script", "_law_k"] ["_law_script", "_law_k"] (defScope sCell) := ⟨rfl, rfl, rfl, by decide +kernel, rfl, by decide +kernel, by decide +kernel⟩
abbrev sMix : Stmt := top 17
theorem scMix : FnScope ["_law_cell", "_law_prime", "_law_many"] ["_law_cell", "_law_prime", "_law_many"] (defScope sMix) := ⟨rfl, rfl, rfl, by decide +kernel, rfl, by decide +kernel, by decide +kernel⟩
abbrev sMixed : Stmt := top 18
theorem scMixed : FnScope ["_law_cell", "_law_k", "_law_many", "_law_m"] ["_law_cell", "_law_k", "_law_many"] (defScope sMixed) := ⟨rfl, rfl, rfl, by decide +kernel, rfl, by decide +kernel, by decide +kernel⟩
abbrev sBits : Stmt := top 19
theorem scBits : FnScope ["_law_cell", "_law_wide", "_law_k"] ["_law_cell", "_law_wide"] (defScope sBits) := ⟨rfl, rfl, rfl, by decide +kernel, rfl, by decide +kernel, by decide +kernel⟩
abbrev sSet : Stmt := top 20
theorem scSet : FnScope ["_law_cell", "_law_many", "_law_way", "_law_place"] ["_law_cell", "_law_many"] (defScope sSet) := ⟨rfl, rfl, rfl, by decide +kernel, rfl, by decide +kernel, by decide +kernel⟩
abbrev sSum : Stmt := top 22
theorem scSum : FnScope ["_law_values", "_law_wide", "_law_k", "_law_value_here"] ["_law_values", "_law_wide"] (defScope sSum) := ⟨rfl, rfl, rfl, by decide +kernel, rfl, by decide +kernel, by decide +kernel⟩
abbrev sSizes : Stmt := top 23
theorem scSizes : FnScope ["_law_one", "_law_other", "_law_many", "_law_wide"] ["_law_one", "_law_other"] (defScope sSizes) := ⟨rfl, rfl, rfl, by decide +kernel, rfl, by decide +kernel, by decide +kernel⟩
abbrev sValue : Stmt := top 24
theorem scValue : FnScope ["_law_found", "_law_wide", "_law_bit"] ["_law_found", "_law_wide"] (defScope sValue) := ⟨rfl, rfl, rfl, by decide +kernel, rfl, by decide +kernel, by decide +kernel⟩
abbrev sRefused : Stmt := top 25
theorem scRefused : FnScope ["_law_load", "_law_places", "e", "_law_some"] ["_law_load", "_law_places"] (defScope sRefused) := ⟨rfl, rfl, rfl, by decide +kernel, rfl, by decide +kernel, by decide +kernel⟩
abbrev sOddList : Stmt := top 26
theorem scOddList : FnScope ["_law_places", "_law_many", "_law_cell", "_law_at", "_law_some"] ["_law_places", "_law_many", "_law_cell"] (defScope sOddList) := ⟨rfl, rfl, rfl, by decide +kernel, rfl, by decide +kernel, by decide +kernel⟩
abbrev sLaw : Stmt := top 27
theorem scLaw : FnScope ["_law_script", "_law_many", "_law_wide", "_law_place", "_law_load", "_law_one", "_law_other", "_law_found", "_law_places", "_law_copies"] ["_law_script"] (defScope sLaw) := ⟨rfl, rfl, rfl, by decide +kernel, rfl, by decide +kernel, by decide +kernel⟩

theorem ok_whole {M : Md} {f : Addr} {fd : FuncData} {k : Nat} (Fu : Fun M.K "_law_whole" "_law_whole" sWhole f fd) (m1 : M.mg "isinstance" = none) (m2 : M.mg "int" = none) (m3 : M.mg "bool" = none) : FnOk M.P M.w M.K M.mg M.base (L2.CX M.P M.w) (k + 1) f fd ["_law_found"] (spP M.K R_whole) := by
  refine pure_def 0 Fu scWhole (fun ars d h => ?_) rfl fun X F σ ars d Γ C Bk h hΓ E => ?_
  · obtain ⟨_, rfl, _⟩ := h; rfl
  obtain ⟨a, rfl, rfl⟩ := h
  simp only [List.map_cons, List.map_nil, Ar.kd, List.cons_append, List.nil_append, List.replicate] at hΓ
  subst hΓ
  cases a <;> (walk_at "ret"; first | rfl | skip)
theorem ok_cell {M : Md} {f : Addr} {fd : FuncData} {k : Nat} (Fu : Fun M.K "_law_cell_at" "_law_cell_at" sCell f fd) (m1 : M.mg "len" = none) : FnOk M.P M.w M.K M.mg M.base (L2.CX M.P M.w) (k + 1) f fd ["_law_script", "_law_k"] (spP M.K R_cell) := by
  refine pure_def 0 Fu scCell (fun ars d h => ?_) rfl fun X F σ ars d Γ C Bk h hΓ E => ?_
  · obtain ⟨_, _, rfl, _⟩ := h; rfl
  obtain ⟨ns, j, rfl, h0, rfl⟩ := h
  simp only [List.map_cons, List.map_nil, Ar.kd, List.cons_append, List.nil_append, List.replicate] at hΓ
  subst hΓ
  walk_at "if"
  · rename_i hc _ _ _
    rw [decide_eq_true_eq] at hc
    walk_at "ret"
    unfold cellAt
    rw [if_pos hc]
  · rename_i hc _ _ _
    rw [decide_eq_false_iff_not] at hc
    refine ws_nil ?_
    walk_at "ret"
    unfold cellAt
    rw [if_neg hc]
theorem ok_mix {M : Md} {f : Addr} {fd : FuncData} {k : Nat} (Fu : Fun M.K "_law_mix" "_law_mix" sMix f fd) : FnOk M.P M.w M.K M.mg M.base (L2.CX M.P M.w) (k + 1) f fd ["_law_cell", "_law_prime", "_law_many"] (spP M.K R_mix) := by
  refine pure_def 0 Fu scMix (fun ars d h => ?_) rfl fun X F σ ars d Γ C Bk h hΓ E => ?_
  · obtain ⟨_, _, _, rfl, _⟩ := h; rfl
  obtain ⟨c, q, n, rfl, h0, h1, rfl⟩ := h
  simp only [List.map_cons, List.map_nil, Ar.kd, List.cons_append, List.nil_append, List.replicate] at hΓ
  subst hΓ
  walk_at "ret"
  rfl
theorem ok_mixed {M : Md} {f : Addr} {fd : FuncData} {k : Nat} (Fu : Fun M.K "_law_mixed" "_law_mixed" sMixed f fd) : FnOk M.P M.w M.K M.mg M.base (L2.CX M.P M.w) (k + 1) f fd ["_law_cell", "_law_k", "_law_many"] (spP M.K R_mixed) := by
  refine pure_def 1 Fu scMixed (fun ars d h => ?_) rfl fun X F σ ars d Γ C Bk h hΓ E => ?_
  · obtain ⟨_, _, _, rfl, _⟩ := h; rfl
  obtain ⟨c, j, n, rfl, h0, rfl⟩ := h
  simp only [List.map_cons, List.map_nil, Ar.kd, List.cons_append, List.nil_append, List.replicate] at hΓ
  subst hΓ
  walk_at "set"
  walk_at "ret"
  rfl
theorem ok_bits {M : Md} {f : Addr} {fd : FuncData} {k : Nat} (Fu : Fun M.K "_law_bits" "_law_bits" sBits f fd) (hX : FnA M 1 "_law_mixed" R_mixed) (hk : 1 ≤ k) (m1 : M.mg "range" = none) (m2 : M.mg "tuple" = none) : FnOk M.P M.w M.K M.mg M.base (L2.CX M.P M.w) (k + 1) f fd ["_law_cell", "_law_wide"] (spP M.K R_bits) := by
  refine pure_def 1 Fu scBits (fun ars d h => ?_) rfl fun X F σ ars d Γ C Bk h hΓ E => ?_
  · obtain ⟨_, _, rfl, _⟩ := h; rfl
  obtain ⟨c, w, rfl, h0, h1, rfl⟩ := h
  simp only [List.map_cons, List.map_nil, Ar.kd, List.cons_append, List.nil_append, List.replicate] at hΓ
  subst hΓ
  walk_at "ret"
  rfl
theorem ok_set {M : Md} {f : Addr} {fd : FuncData} {k : Nat} (Fu : Fun M.K "_law_set" "_law_set" sSet f fd) (hM : FnA M 1 "_law_mix" R_mix) (hX : FnA M 1 "_law_mixed" R_mixed) (hk : 1 ≤ k) (m1 : M.mg "range" = none) (m2 : M.mg "sorted" = none) (m3 : M.mg "set" = none) : FnOk M.P M.w M.K M.mg M.base (L2.CX M.P M.w) (k + 1) f fd ["_law_cell", "_law_many"] (spP M.K R_set) := by
  refine pure_def 2 Fu scSet (fun ars d h => ?_) rfl fun X F σ ars d Γ C Bk h hΓ E => ?_
  · obtain ⟨_, _, rfl, _⟩ := h; rfl
  obtain ⟨c, n, rfl, h0, h1, rfl⟩ := h
  simp only [List.map_cons, List.map_nil, Ar.kd, List.cons_append, List.nil_append, List.replicate] at hΓ
  subst hΓ
  walk_at "set"
  walk_at "if"
  · rename_i hc _ _ _
    rw [decide_eq_true_eq] at hc
    walk_at "ret"
    unfold setI
    rw [if_pos hc]; rfl
  · rename_i hc _ _ _
    rw [decide_eq_false_iff_not] at hc
    refine ws_nil ?_
    walk_at "if"
    · rename_i hc2 _ _ _
      rw [decide_eq_true_eq] at hc2
      walk_at "ret"
      all_goals first | (simp only [List.length_cons, List.length_nil]; omega) | (unfold setI; rw [if_neg hc, if_pos hc2])
    · rename_i hc2 _ _ _
      rw [decide_eq_false_iff_not] at hc2
      refine ws_nil ?_
      walk_at "ret"
      unfold setI
      rw [if_neg hc, if_neg hc2]
theorem ok_sum {M : Md} {f : Addr} {fd : FuncData} {k : Nat} (Fu : Fun M.K "_law_sum" "_law_sum" sSum f fd) (m1 : M.mg "range" = none) (m2 : M.mg "tuple" = none) (m3 : M.mg "sum" = none) : FnOk M.P M.w M.K M.mg M.base (L2.CX M.P M.w) (k + 1) f fd ["_law_values", "_law_wide"] (spP M.K R_sum) := by
  refine pure_def 2 Fu scSum (fun ars d h => ?_) rfl fun X F σ ars d Γ C Bk h hΓ E => ?_
  · obtain ⟨_, _, rfl, _⟩ := h; rfl
  obtain ⟨vs, w, rfl, h0, h1, h2, rfl⟩ := h
  simp only [List.map_cons, List.map_nil, Ar.kd, List.cons_append, List.nil_append, List.replicate] at hΓ
  subst hΓ
  walk_at "ret"
  all_goals first | rfl | (have := h2 _ (by assumption); omega)
theorem ok_sizes {M : Md} {f : Addr} {fd : FuncData} {k : Nat} (Fu : Fun M.K "_law_sizes" "_law_sizes" sSizes f fd) (hM : FnA M 1 "_law_mix" R_mix) (hk : 1 ≤ k) : FnOk M.P M.w M.K M.mg M.base (L2.CX M.P M.w) (k + 1) f fd ["_law_one", "_law_other"] (spP M.K R_sizes) := by
  refine pure_def 2 Fu scSizes (fun ars d h => ?_) rfl fun X F σ ars d Γ C Bk h hΓ E => ?_
  · obtain ⟨_, _, rfl, _⟩ := h; rfl
  obtain ⟨a, b, rfl, rfl⟩ := h
  simp only [List.map_cons, List.map_nil, Ar.kd, List.cons_append, List.nil_append, List.replicate] at hΓ
  subst hΓ
  have q1 : 0 ≤ mixI a 10103 3 ∧ mixI a 10103 3 < 3 := by unfold mixI; omega
  have q2 : 0 ≤ mixI b 10111 2 ∧ mixI b 10111 2 < 2 := by unfold mixI; omega
  walk_at "set"
  walk_at "set"
  walk_at "ret"
  rfl
theorem filter_whole (xs : List Int) : xs.filter (fun y => !isIntD (.int y)) = [] := List.filter_eq_nil_iff.mpr fun y _ => by simp [isIntD]
theorem ok_value {M : Md} {f : Addr} {fd : FuncData} {k : Nat} (Fu : Fun M.K "_law_value" "_law_value" sValue f fd) (hW : FnA M 1 "_law_whole" R_whole) (hk : 1 ≤ k) (m1 : M.mg "isinstance" = none) (m2 : M.mg "tuple" = none) (m3 : M.mg "len" = none) : FnOk M.P M.w M.K M.mg M.base (L2.CX M.P M.w) (k + 1) f fd ["_law_found", "_law_wide"] (spP M.K R_value) := by
  refine pure_def 1 Fu scValue (fun ars d h => ?_) rfl fun X F σ ars d Γ C Bk h hΓ E => ?_
  · obtain ⟨_, _, rfl, _⟩ := h; rfl
  obtain ⟨xs, w, rfl, rfl⟩ := h
  simp only [List.map_cons, List.map_nil, Ar.kd, List.cons_append, List.nil_append, List.replicate] at hΓ
  subst hΓ
  walk_at "if"
  · rename_i hc _ _ _
    walk_at "ret"
    simp [dTup] at hc ⊢
    simpa using hc
  · rename_i hc _ _ _
    refine ws_nil ?_
    walk_at "ret"
    simp [dTup] at hc
    simp [filter_whole, eqD_rfl, hc]
theorem ok_added {M : Md} {f : Addr} {fd : FuncData} {k : Nat} (Fu : Fun M.K "added" "added" sAdded f fd) (m1 : M.mg "zip" = none) (m2 : M.mg "tuple" = none) : FnOk M.P M.w M.K M.mg M.base (L2.CX M.P M.w) (k + 1) f fd ["one", "other"] (spP M.K R_added) := by
  refine pure_def 2 Fu scAdded (fun ars d h => ?_) rfl fun X F σ ars d Γ C Bk h hΓ E => ?_
  · obtain ⟨_, _, rfl, _⟩ := h; rfl
  obtain ⟨xs, ys, rfl, h0, rfl⟩ := h
  simp only [List.map_cons, List.map_nil, Ar.kd, List.cons_append, List.nil_append, List.replicate] at hΓ
  subst hΓ
  walk_at "ret"
  rfl
theorem risesF_cons {last n p : Int} {r : List Int} : risesF last n (p :: r) = if p ≤ last ∨ n ≤ p then false else risesF p n r := rfl
theorem risesF_iff {n : Int} : ∀ {ps : List Int} {last : Int}, risesF last n ps = true ↔ Up ps ∧ ∀ p ∈ ps, last < p ∧ p < n
  | [], _ => ⟨fun _ => ⟨.nil, fun _ h => nomatch h⟩, fun _ => rfl⟩
  | p :: r, last => by
    rw [risesF_cons]
    by_cases z : p ≤ last ∨ n ≤ p
    · rw [if_pos z]
      constructor
      · intro h; cases h
      · intro h; have := h.2 p List.mem_cons_self; omega
    · rw [if_neg z, risesF_iff (ps := r)]
      constructor
      · rintro ⟨h1, h2⟩
        refine ⟨List.pairwise_cons.mpr ⟨fun q hq => (h2 q hq).1, h1⟩, fun q hq => ?_⟩
        rcases List.mem_cons.mp hq with e | e
        · rw [e]; omega
        · have := h2 q e; omega
      · rintro ⟨h1, h2⟩
        have h1 := List.pairwise_cons.mp h1
        exact ⟨h1.2, fun q hq => ⟨h1.1 q hq, (h2 q (List.mem_cons_of_mem _ hq)).2⟩⟩
theorem ok_rises {M : Md} {f : Addr} {fd : FuncData} {k : Nat} (Fu : Fun M.K "rising_within" "rising_within" sRises f fd) : FnOk M.P M.w M.K M.mg M.base (L2.CX M.P M.w) (k + 1) f fd ["places", "many"] (spP M.K R_rises) := by
  refine pure_def 2 Fu scRises (fun ars d h => ?_) rfl fun X F σ ars d Γ C Bk h hΓ E => ?_
  · obtain ⟨_, _, rfl, _⟩ := h; rfl
  obtain ⟨ps, n, rfl, rfl⟩ := h
  simp only [List.map_cons, List.map_nil, Ar.kd, List.cons_append, List.nil_append, List.replicate] at hΓ
  subst hΓ
  walk_at "set"
  refine' ws_forA (i := 3) (f := .int) (xs := ps) (pRt _) (fun j Γ => ∃ (k : Kd) (last : Int), k.dry = true ∧ risesF (-1) n ps = risesF last n (ps.drop j) ∧ Γ = [.arg (.lst (ps.map .int)), .val (.int n), .val (.int last), k]) (fun _ => False) (by assumption) (by assumption) (by assumption) rfl ?gL ?gS ?gU pRt_mono rfl ?gJ ?g0 ?gB ?gE ?gd ?gc
  case gL => walk_at "vis"
  case gS => walk_at "sel"
  case gU => walk_at "vis"
  case gd => walk_at "vis"
  case gc => walk_at "vis"
  case gJ => rintro j Γ ⟨k, last, hk, _, rfl⟩; exact ⟨k, rfl, hk⟩
  case g0 => exact ⟨.un, -1, rfl, rfl, rfl⟩
  case gB =>
    rintro G1 C1 j y Γ hy ⟨k, last, hk, hr, rfl⟩ σ G H Fs E
    simp only [List.set_cons_succ, List.set_cons_zero] at E
    have hd : ps.drop j = y :: ps.drop (j + 1) := by
      obtain ⟨hj, e⟩ := List.getElem?_eq_some_iff.mp hy
      rw [← e]; exact List.drop_eq_getElem_cons hj
    rw [hd] at hr
    rw [risesF_cons] at hr
    walk_at "if"
    · rename_i hc _ _ _
      rw [Bool.or_eq_true, decide_eq_true_eq, decide_eq_true_eq] at hc
      walk_at "ret"
      rw [hr, if_pos hc]
    · rename_i hc _ _ _
      rw [Bool.or_eq_false_iff, decide_eq_false_iff_not, decide_eq_false_iff_not] at hc
      refine ws_nil ?_
      walk_at "set"
      refine ws_nil ⟨_, _, _, by assumption, _, y, rfl, ?_, rfl⟩
      rw [if_neg (by omega)] at hr
      exact hr
  case gE =>
    rintro Γ (⟨k, last, hk, hr, rfl⟩ | hn) σ G H Fs E
    · walk_at "ret"
      rw [hr, List.drop_of_length_le (Nat.le_refl _)]; rfl
    · exact hn.elim
def valStep (L : List (List Int)) (t : List Int) (p : Int) : List Int := List.zipWith Builtin.bitXor t (L.getD p.toNat [])
theorem valI_len {L : List (List Int)} {w : Nat} (hL : ∀ v ∈ L, v.length = w) : ∀ (ps : List Int) (t : List Int), t.length = w → (∀ p ∈ ps, 0 ≤ p ∧ p < L.length) → (ps.foldl (valStep L) t).length = w
  | [], t, ht, _ => ht
  | p :: r, t, ht, hp => by
    rw [List.foldl_cons]
    refine valI_len hL r _ ?_ fun q hq => hp q (List.mem_cons_of_mem _ hq)
    have h := hp p List.mem_cons_self
    have hlt : p.toNat < L.length := by omega
    unfold valStep
    rw [List.length_zipWith, ht, List.getD_eq_getElem?_getD, List.getElem?_eq_getElem hlt, Option.getD_some, hL _ (List.getElem_mem hlt), Nat.min_self]
theorem getD_len {L : List (List Int)} {w : Nat} (hL : ∀ v ∈ L, v.length = w) {p : Int} (h0 : 0 ≤ p) (h1 : p < L.length) : (L.getD p.toNat []).length = w := by
  have hlt : p.toNat < L.length := by omega
  rw [List.getD_eq_getElem?_getD, List.getElem?_eq_getElem hlt, Option.getD_some, hL _ (List.getElem_mem hlt)]
def RX_valof (CB : Addr) : List Ar → Addr → Prop := fun ars C => ∃ (L : List (List Int)) (ps : List Int), ars = [.lst (L.map tupI), .lst (ps.map .int)] ∧ risesF (-1) L.length ps = false ∧ C = CB
theorem ok_valof {M : Md} {f : Addr} {fd : FuncData} {k : Nat} {CB : Addr} (Fu : Fun M.K "value_of" "value_of" sValof f fd) (LB : ClsX M "BadPlaces" CB) (hR : FnA M 1 "rising_within" R_rises) (hA : FnA M 1 "added" R_added) (hk : 1 ≤ k) (m1 : M.mg "len" = none) : FnOk M.P M.w M.K M.mg M.base (L2.CX M.P M.w) (k + 1) f fd ["load", "places"] (spX M.K R_valof (RX_valof CB)) := by
  refine raise_def 2 Fu scValof (fun ars d h => ?_) (fun ars C h => ?_) rfl (fun X F σ ars d Γ C Bk h hΓ E => ?_) (fun X F σ ars CC Γ C Bk tk h hΓ E => ?_)
  · obtain ⟨_, _, rfl, _⟩ := h; rfl
  · obtain ⟨_, _, rfl, _⟩ := h; rfl
  · obtain ⟨L, ps, rfl, h1, h2, h3, h4, h5, rfl⟩ := h
    simp only [List.map_cons, List.map_nil, Ar.kd, List.cons_append, List.nil_append, List.replicate] at hΓ
    subst hΓ
    have hl : (L.map tupI).length = L.length := List.length_map _
    have h0 : 0 < L.length := List.length_pos_iff.mpr h2
    have e0 : (0 : Int).toNat = 0 := rfl
    have hl0 : ((L.getD (0 : Int).toNat []).map PyData.int).length = (L.getD 0 []).length := List.length_map _
    obtain ⟨_, hp⟩ := risesF_iff.mp h1
    walk_at "if"
    · rename_i hc _ _ _
      rw [hl, h1] at hc; cases hc
    refine ws_nil ?_
    walk_at "set"
    rename_i E
    rw [hl0] at E
    refine' ws_forA (i := 3) (f := .int) (xs := ps) (pRt _) (fun j Γ => ∃ (k : Kd), k.dry = true ∧ Γ = [.arg (.lst (L.map tupI)), .arg (.lst (ps.map .int)), .val (tupI ((ps.take j).foldl (valStep L) (List.replicate (L.getD 0 []).length 0))), k]) (fun _ => False) (by assumption) (by assumption) (by assumption) rfl ?gL ?gS ?gU pRt_mono rfl ?gJ ?g0 ?gB ?gE ?gd ?gc
    case gL => walk_at "vis"
    case gS => walk_at "sel"
    case gU => walk_at "vis"
    case gd => walk_at "vis"
    case gc => walk_at "vis"
    case gJ => rintro j Γ ⟨k, hk, rfl⟩; exact ⟨k, rfl, hk⟩
    case g0 => exact ⟨.un, rfl, rfl⟩
    case gB =>
      rintro G1 C1 j y Γ hy ⟨k, hk, rfl⟩ σ G H Fs E
      simp only [List.set_cons_succ, List.set_cons_zero] at E
      have hm := hp y (List.mem_of_getElem? hy)
      have hle : ((ps.take j).foldl (valStep L) (List.replicate (L.getD 0 []).length 0)).length = (L.getD y.toNat []).length := by
        rw [valI_len h3 _ _ List.length_replicate (fun p hp' => by have := hp p (List.mem_of_mem_take hp'); omega), getD_len h3 (by omega) hm.2]
      walk_at "set"
      refine ws_nil ⟨_, _, _, by assumption, .val (.int y), rfl, ?_⟩
      rw [List.take_add_one, hy]
      show _ = [_, _, Kd.val (tupI (((ps.take j) ++ [y]).foldl (valStep L) _)), _]
      rw [List.foldl_append]; rfl
    case gE =>
      rintro Γ (⟨k, hk, rfl⟩ | hn) σ G H Fs E
      · walk_at "ret"
        rw [List.take_of_length_le (Nat.le_refl _)]; rfl
      · exact hn.elim
  · obtain ⟨L, ps, rfl, h1, rfl⟩ := h
    simp only [List.map_cons, List.map_nil, Ar.kd, List.cons_append, List.nil_append, List.replicate] at hΓ
    subst hΓ
    have hl : (L.map tupI).length = L.length := List.length_map _
    walk_at "if"
    · refine ws_raise C tk LB (by decide +kernel) (by decide +kernel) ⟨rfl, rfl, _, Env.done (by assumption)⟩
    · rename_i hc _ _ _
      rw [hl, h1] at hc; cases hc
/-- what isinstance says of an error of the class at CB -/
structure Kin (M : Md) (CB : Addr) (x : Str) (t : Bool) : Prop where
  ex : ∃ C : Addr, M.mg x = some (.ref C) ∧ PySem.W.kitOne M.K (.ref CB) (.ref C) = some t
theorem ok_refused {M : Md} {f : Addr} {fd : FuncData} {k : Nat} {CB CR : Addr} (Fu : Fun M.K "_law_refused" "_law_refused" sRefused f fd) (hV : FnX M 2 "value_of" R_valof (RX_valof CB)) (hk : 2 ≤ k) (EC : ExcC M.K CB) (gR : M.mg "RainError" = some (.ref CR)) (hR : PySem.W.exmOne M.K (.ref CB) (.ref CR) = some true)
    (k1 : Kin M CB "BadText" false) (k2 : Kin M CB "BadValue" false) (k3 : Kin M CB "Full" false) (k4 : Kin M CB "IsOut" false) (k5 : Kin M CB "NoParcel" false) (k6 : Kin M CB "NoYard" false) (k7 : Kin M CB "NotOut" false) (k8 : Kin M CB "BadPlaces" true) (kv : PySem.W.kitOne M.K (.ref CB) (.type "ValueError") = some true)
    (m1 : M.mg "isinstance" = none) (m2 : M.mg "ValueError" = none) : FnOk M.P M.w M.K M.mg M.base (L2.CX M.P M.w) (k + 1) f fd ["_law_load", "_law_places"] (spP M.K R_refused) := by
  refine pure_def 2 Fu scRefused (fun ars d h => ?_) rfl fun X F σ ars d Γ C Bk h hΓ E => ?_
  · obtain ⟨_, _, rfl, _⟩ := h; rfl
  obtain ⟨L, ps, rfl, h0, rfl⟩ := h
  simp only [List.map_cons, List.map_nil, Ar.kd, List.cons_append, List.nil_append, List.replicate] at hΓ
  subst hΓ
  refine ws_try (i := 2) (c := .ref CR) (Wout := fun _ _ _ _ => False) C Bk rfl (by decide +kernel) ⟨gl_of C (by decide +kernel), by decide +kernel, .inl (by rw [C.hM]; exact gR)⟩ takes0 fun pn xe W tk hp hW => ?_
  refine ws_cons ⟨_, ps_expr pe_w (sw_no rfl _ _ _), ?_⟩
  refine w_callX (ars := [.lst (L.map tupI), .lst (ps.map .int)]) C.tr hV hk (by decide +kernel) tk ?gA ⟨L, ps, rfl, h0, rfl⟩ E (fun G H E => hW _ _ _ _ ⟨true, by rw [C.hK]; exact hR, fun _ a oe pn na hz hf => ?gS, fun z => nomatch z⟩) rfl rfl (by decide +kernel)
  case gA =>
    have C' := C.tr (pn := pn) (xe := xe)
    refine arp_lst (by walk_at "lp") (arp_lst (by walk_at "lp") arp_nil rfl) rfl
  case gS =>
    have S := Sok.of C Bk (a := a) (pn := (a, oe) :: pn)
    have E1 := env_raw (v := .ref a) E (i := 2) rfl rfl
    simp only [List.set_cons_succ, List.set_cons_zero] at E1
    obtain ⟨c1, g1, q1⟩ := k1.ex
    obtain ⟨c2, g2, q2⟩ := k2.ex
    obtain ⟨c3, g3, q3⟩ := k3.ex
    obtain ⟨c4, g4, q4⟩ := k4.ex
    obtain ⟨c5, g5, q5⟩ := k5.ex
    obtain ⟨c6, g6, q6⟩ := k6.ex
    obtain ⟨c7, g7, q7⟩ := k7.ex
    obtain ⟨c8, g8, q8⟩ := k8.ex
    rw [← C.hM] at g1 g2 g3 g4 g5 g6 g7 g8 m1 m2
    rw [← C.hK] at q1 q2 q3 q4 q5 q6 q7 q8 kv EC
    refine' ws_setS S E1 ?s1 ?sd ?s2 ?s3 ?s4 ?s5 rfl
    case s1 => walk_at "sel"
    case sd => rfl
    case s2 => walk_at "vis"
    case s3 =>
      refine NP.ep (np_lst (ap_cons (ep_isE S EC hz hf m1 g1 q1 (.there (.there .here)) (by decide +kernel) (by decide +kernel) (by decide +kernel) (by decide +kernel) (by decide +kernel) (by decide +kernel)) (ap_cons (ep_isE S EC hz hf m1 g2 q2 (.there (.there .here)) (by decide +kernel) (by decide +kernel) (by decide +kernel) (by decide +kernel) (by decide +kernel) (by decide +kernel)) (ap_cons (ep_isE S EC hz hf m1 g3 q3 (.there (.there .here)) (by decide +kernel) (by decide +kernel) (by decide +kernel) (by decide +kernel) (by decide +kernel) (by decide +kernel)) (ap_cons (ep_isE S EC hz hf m1 g4 q4 (.there (.there .here)) (by decide +kernel) (by decide +kernel) (by decide +kernel) (by decide +kernel) (by decide +kernel) (by decide +kernel)) ap_nil)))) (by decide))
    case s4 => walk_at "nrm"
    intro σ2 G2 H2 E2
    refine' ws_setS S E2 ?t1 ?td ?t2 ?t3 ?t4 ?t5 rfl
    case t1 => walk_at "sel"
    case td => rfl
    case t2 => walk_at "vis"
    case t3 =>
      refine ep_bin (ep_nameS S (.there (.there (.there .here))) (by decide +kernel) (by decide +kernel) (by decide +kernel)) (NP.ep (np_lst (ap_cons (ep_isE S EC hz hf m1 g5 q5 (.there (.there .here)) (by decide +kernel) (by decide +kernel) (by decide +kernel) (by decide +kernel) (by decide +kernel) (by decide +kernel)) (ap_cons (ep_isE S EC hz hf m1 g6 q6 (.there (.there .here)) (by decide +kernel) (by decide +kernel) (by decide +kernel) (by decide +kernel) (by decide +kernel) (by decide +kernel)) (ap_cons (ep_isE S EC hz hf m1 g7 q7 (.there (.there .here)) (by decide +kernel) (by decide +kernel) (by decide +kernel) (by decide +kernel) (by decide +kernel) (by decide +kernel)) ap_nil))) (by decide))) (do_cat (by decide))
    case t4 => walk_at "nrm"
    intro σ3 G3 H3 E3
    refine ws_ret E3 (ep_and (ep_isE S EC hz hf m1 g8 q8 (.there (.there .here)) (by decide +kernel) (by decide +kernel) (by decide +kernel) (by decide +kernel) (by decide +kernel) (by decide +kernel)) fun _ => ep_and (ep_isEB S EC hz hf m1 m2 (T := "ValueError") (by decide +kernel) kv (.there (.there .here)) (by decide +kernel) (by decide +kernel) (by decide +kernel) (by decide +kernel) (by decide +kernel) (by decide +kernel) (by decide +kernel)) fun _ => ep_one (ep_notInB (bs := [false, false, false, false, false, false, false]) ep_bool (EP.lp (ep_nameS S (.there (.there (.there .here))) (by decide +kernel) (by decide +kernel) (by decide +kernel))) rfl)) fun v G' H' E' r => ⟨G', E'.done, ?dd⟩
    case dd => exact r
theorem ok_oddl {M : Md} {f : Addr} {fd : FuncData} {k : Nat} (Fu : Fun M.K "_law_odd_list" "_law_odd_list" sOddList f fd) (hM : FnA M 1 "_law_mix" R_mix) (hk : 1 ≤ k) (m1 : M.mg "len" = none) : FnOk M.P M.w M.K M.mg M.base (L2.CX M.P M.w) (k + 1) f fd ["_law_places", "_law_many", "_law_cell"] (spP M.K R_oddl) := by
  refine pure_def 2 Fu scOddList (fun ars d h => ?_) rfl fun X F σ ars d Γ C Bk h hΓ E => ?_
  · obtain ⟨_, _, _, rfl, _⟩ := h; rfl
  obtain ⟨ps, n, c, rfl, h0, h1, rfl⟩ := h
  simp only [List.map_cons, List.map_nil, Ar.kd, List.cons_append, List.nil_append, List.replicate] at hΓ
  subst hΓ
  have hl : (ps.map PyData.int).length = ps.length := List.length_map _
  have hm : 0 ≤ mixI c 10133 ((ps.length : Int) + 1) ∧ mixI c 10133 ((ps.length : Int) + 1) < (ps.length : Int) + 1 := by
    unfold mixI
    exact ⟨Int.emod_nonneg _ (by omega), Int.emod_lt_of_pos _ (by omega)⟩
  have hat : mixI c 10133 ((ps.length : Int) + 1) = ((oddAt ps c : Nat) : Int) := by unfold oddAt; omega
  have hle : oddAt ps c ≤ ps.length := by omega
  have hq : 0 ≤ mixI c 10139 5 ∧ mixI c 10139 5 < 5 := by unfold mixI; omega
  have e1 : cutG (ps.map PyData.int) none (some ((oddAt ps c : Nat) : Int)) = (ps.take (oddAt ps c)).map PyData.int := by rw [cutG_to (by rw [hl]; exact hle), List.map_take]
  have e2 : cutG (ps.map PyData.int) (some ((oddAt ps c : Nat) : Int)) none = (ps.drop (oddAt ps c)).map PyData.int := by rw [cutG_from (by rw [hl]; exact hle), List.map_drop]
  have l1 : (cutG (ps.map PyData.int) none (some ((oddAt ps c : Nat) : Int))).length ≤ 1000 := by rw [e1, List.length_map, List.length_take]; omega
  have l2 : (cutG (ps.map PyData.int) (some ((oddAt ps c : Nat) : Int)) none).length ≤ 1000 := by rw [e2, List.length_map, List.length_drop]; omega
  walk_at "set"
  rename_i E
  rw [hl, hat] at E
  walk_at "set"
  walk_at "set"
  walk_at "ret"
  rw [e1, e2]
  unfold oddL oddLs
  have : (mixI c 10139 5).toNat = 0 ∨ (mixI c 10139 5).toNat = 1 ∨ (mixI c 10139 5).toNat = 2 ∨ (mixI c 10139 5).toNat = 3 ∨ (mixI c 10139 5).toNat = 4 := by omega
  rcases this with z | z | z | z | z <;> rw [z] <;> simp
theorem oddL_bad {ps : List Int} {n c : Int} (hn : 1 ≤ n) : risesF (-1) n (oddL ps n c) = false := by
  cases h : risesF (-1) n (oddL ps n c) with
  | false => rfl
  | true =>
    exfalso
    obtain ⟨hu, hp⟩ := risesF_iff.mp h
    have hq : 0 ≤ mixI c 10139 5 ∧ mixI c 10139 5 < 5 := by unfold mixI; omega
    unfold oddL oddLs at hu hp
    have : (mixI c 10139 5).toNat = 0 ∨ (mixI c 10139 5).toNat = 1 ∨ (mixI c 10139 5).toNat = 2 ∨ (mixI c 10139 5).toNat = 3 ∨ (mixI c 10139 5).toNat = 4 := by omega
    rcases this with z | z | z | z | z <;> rw [z] at hu hp
    · have := hp n (List.mem_append.mpr (.inl (List.mem_append.mpr (.inr List.mem_cons_self)))); omega
    · have := hp (-1) (List.mem_append.mpr (.inl (List.mem_append.mpr (.inr List.mem_cons_self)))); omega
    · have h1 := hp (n + c % 10 ^ (9 : Int).toNat) (List.mem_append.mpr (.inr List.mem_cons_self))
      have h2 : 0 ≤ c % 10 ^ (9 : Int).toNat := Int.emod_nonneg _ (by decide)
      omega
    · have h1 : Up (ps.take (oddAt ps c) ++ [0, 0] ++ ps.drop (oddAt ps c)) := hu
      have h2 := (List.pairwise_append.mp (List.pairwise_append.mp h1).1).2.1
      have := (List.pairwise_cons.mp h2).1 0 List.mem_cons_self
      omega
    · have h1 : Up ([n - 1] ++ ps ++ [0, 0]) := hu
      have h2 := (List.pairwise_append.mp h1).2.1
      have := (List.pairwise_cons.mp h2).1 0 List.mem_cons_self
      omega

theorem manyI_bd (a : Int) : 1 ≤ manyI a ∧ manyI a ≤ 24 := by
  have q1 : 0 ≤ mixI a 10103 3 ∧ mixI a 10103 3 < 3 := by unfold mixI; omega
  have q2 : 0 ≤ mixI a 10079 7 ∧ mixI a 10079 7 < 7 := by unfold mixI; omega
  have q3 : 0 ≤ mixI a 10091 24 ∧ mixI a 10091 24 < 24 := by unfold mixI; omega
  unfold manyI
  have : (mixI a 10103 3).toNat = 0 ∨ (mixI a 10103 3).toNat = 1 ∨ (mixI a 10103 3).toNat = 2 := by omega
  rcases this with z | z | z <;> rw [z]
  · show 1 ≤ 1 + mixI a 10079 7 ∧ 1 + mixI a 10079 7 ≤ 24
    omega
  · show 1 ≤ 1 + mixI a 10079 7 ∧ 1 + mixI a 10079 7 ≤ 24
    omega
  · show 1 ≤ 1 + mixI a 10091 24 ∧ 1 + mixI a 10091 24 ≤ 24
    omega
theorem wideI_bd (a : Int) : 1 ≤ wideI a ∧ wideI a ≤ 32 := by
  have q1 : 0 ≤ mixI a 10111 2 ∧ mixI a 10111 2 < 2 := by unfold mixI; omega
  have q2 : 0 ≤ mixI a 10093 4 ∧ mixI a 10093 4 < 4 := by unfold mixI; omega
  have q3 : 0 ≤ mixI a 10099 32 ∧ mixI a 10099 32 < 32 := by unfold mixI; omega
  unfold wideI
  have : (mixI a 10111 2).toNat = 0 ∨ (mixI a 10111 2).toNat = 1 := by omega
  rcases this with z | z <;> rw [z]
  · show 1 ≤ 1 + mixI a 10093 4 ∧ 1 + mixI a 10093 4 ≤ 32
    omega
  · show 1 ≤ 1 + mixI a 10099 32 ∧ 1 + mixI a 10099 32 ≤ 32
    omega
def Bits (w : Nat) (v : List Int) : Prop := v.length = w ∧ ∀ b ∈ v, b = 0 ∨ b = 1
theorem bitsI_bits {c w : Int} : Bits w.toNat (bitsI c w) := by
  unfold bitsI
  refine ⟨by rw [List.length_map, List.length_range], fun b hb => ?_⟩
  obtain ⟨j, _, rfl⟩ := List.mem_map.mp hb
  unfold mixedI
  omega
theorem bx (a b : Int) (ha : a = 0 ∨ a = 1) (hb : b = 0 ∨ b = 1) : Builtin.bitXor a b = (a + b) % 2 := by
  rcases ha with rfl | rfl <;> rcases hb with rfl | rfl <;> decide +kernel
theorem bits_getD {w : Nat} {v : List Int} (h : Bits w v) (k : Nat) : v.getD k 0 = 0 ∨ v.getD k 0 = 1 := by
  rw [List.getD_eq_getElem?_getD]
  cases q : v[k]? with
  | none => exact .inl rfl
  | some b => exact h.2 b (List.mem_of_getElem? q)
/-- the sum bit by bit -/
theorem fold_bits {L : List (List Int)} {w : Nat} (hL : ∀ v ∈ L, Bits w v) : ∀ (ps : List Int) (t : List Int), Bits w t → (∀ p ∈ ps, 0 ≤ p ∧ p < L.length) →
    ps.foldl (valStep L) t = (List.range w).map fun k => (t.getD k 0 + (ps.map fun p => (L.getD p.toNat []).getD k 0).sum) % 2
  | [], t, ht, _ => by
    refine List.ext_getElem? fun k => ?_
    rw [List.foldl_nil, List.getElem?_map]
    by_cases hk : k < w
    · rw [List.getElem?_range hk, List.getElem?_eq_getElem (by rw [ht.1]; exact hk)]
      show _ = some ((t.getD k 0 + 0) % 2)
      have hb := bits_getD ht k
      have e : t.getD k 0 = t[k]'(by rw [ht.1]; exact hk) := by rw [List.getD_eq_getElem?_getD, List.getElem?_eq_getElem (by rw [ht.1]; exact hk)]; rfl
      rw [← e]
      rcases hb with z | z <;> rw [z] <;> rfl
    · rw [List.getElem?_eq_none (by rw [ht.1]; omega), List.getElem?_eq_none (by rw [List.length_range]; omega)]; rfl
  | p :: r, t, ht, hp => by
    have h := hp p List.mem_cons_self
    have hlt : p.toNat < L.length := by omega
    have hv : Bits w (L.getD p.toNat []) := by
      rw [List.getD_eq_getElem?_getD, List.getElem?_eq_getElem hlt]
      exact hL _ (List.getElem_mem hlt)
    have key : ∀ k, k < w → (valStep L t p).getD k 0 = (t.getD k 0 + (L.getD p.toNat []).getD k 0) % 2 := fun k hk => by
      unfold valStep
      rw [List.getD_eq_getElem?_getD, List.getElem?_zipWith, List.getElem?_eq_getElem (by rw [ht.1]; exact hk), List.getElem?_eq_getElem (by rw [hv.1]; exact hk)]
      show Builtin.bitXor _ _ = _
      have e1 : t.getD k 0 = t[k]'(by rw [ht.1]; exact hk) := by rw [List.getD_eq_getElem?_getD, List.getElem?_eq_getElem (by rw [ht.1]; exact hk)]; rfl
      have e2 : (L.getD p.toNat []).getD k 0 = (L.getD p.toNat [])[k]'(by rw [hv.1]; exact hk) := by rw [List.getD_eq_getElem?_getD, List.getElem?_eq_getElem (by rw [hv.1]; exact hk)]; rfl
      rw [← e1, ← e2]
      exact bx _ _ (bits_getD ht k) (bits_getD hv k)
    have hs : Bits w (valStep L t p) := by
      refine ⟨by unfold valStep; rw [List.length_zipWith, ht.1, hv.1, Nat.min_self], fun b hb => ?_⟩
      obtain ⟨k, hk, e⟩ := List.getElem_of_mem hb
      have hkw : k < w := by
        have : (valStep L t p).length = w := by unfold valStep; rw [List.length_zipWith, ht.1, hv.1, Nat.min_self]
        omega
      have := key k hkw
      rw [List.getD_eq_getElem?_getD, List.getElem?_eq_getElem hk, Option.getD_some, e] at this
      omega
    rw [List.foldl_cons, fold_bits hL r _ hs fun q hq => hp q (List.mem_cons_of_mem _ hq)]
    refine List.map_congr_left fun k hk => ?_
    rw [List.mem_range] at hk
    rw [key k hk, List.map_cons, List.sum_cons]
    omega
theorem zero_bits (w : Nat) : Bits w (List.replicate w 0) := ⟨List.length_replicate, fun b hb => .inl (List.eq_of_mem_replicate hb)⟩
theorem valI_sumI {L : List (List Int)} {w : Nat} (hL : ∀ v ∈ L, Bits w v) (h0 : L ≠ []) {ps : List Int} (hp : ∀ p ∈ ps, 0 ≤ p ∧ p < L.length) : valI L ps = sumI (ps.map fun p => L.getD p.toNat []) w := by
  have hw : (L.getD 0 []).length = w := by
    cases L with
    | nil => exact absurd rfl h0
    | cons v r => exact (hL v List.mem_cons_self).1
  show ps.foldl (valStep L) (List.replicate (L.getD 0 []).length 0) = _
  rw [hw, fold_bits hL ps _ (zero_bits w) hp]
  unfold sumI
  rw [Int.toNat_natCast]
  refine List.map_congr_left fun k hk => ?_
  rw [List.mem_range] at hk
  have e : (List.replicate w (0 : Int)).getD k 0 = 0 := by
    rw [List.getD_eq_getElem?_getD, List.getElem?_replicate]; split <;> rfl
  rw [e, Int.zero_add, List.map_map, Int.toNat_natCast]
  rfl

theorem setI_rises {c n : Int} (hn : 1 ≤ n) : risesF (-1) n (setI c n) = true := by
  refine risesF_iff.mpr ?_
  have b : ∀ q : Int, 0 ≤ mixI c q n ∧ mixI c q n < n := fun q => by
    unfold mixI
    exact ⟨Int.emod_nonneg _ (by omega), Int.emod_lt_of_pos _ (by omega)⟩
  unfold setI
  split
  · refine ⟨List.pairwise_singleton _ _, fun p hp => ?_⟩
    rw [List.mem_singleton] at hp
    have := b 10067; omega
  · split
    · refine ⟨up_rise _, fun p hp => ?_⟩
      have hp := mem_rise.mp hp
      simp only [List.mem_cons, List.not_mem_nil, or_false] at hp
      have h1 := b 10067; have h2 := b 10069
      omega
    · refine ⟨?_, fun p hp => ?_⟩
      · refine List.pairwise_map.mpr ((List.pairwise_lt_range.sublist List.filter_sublist).imp fun h => by omega)
      · obtain ⟨j, hj, rfl⟩ := List.mem_map.mp hp
        have := List.mem_range.mp (List.mem_filter.mp hj).1
        omega
theorem setI_len {c n : Int} (hn : 1 ≤ n) (h2 : n ≤ 1000) : (setI c n).length ≤ 1000 := by
  unfold setI
  split
  · exact Nat.le_of_lt (by simp)
  · split
    · exact Nat.le_trans (rise_len _) (Nat.le_of_lt (by simp))
    · rw [List.length_map]
      refine Nat.le_trans (List.length_filter_le _ _) ?_
      rw [List.length_range]; omega
theorem xor_sumI {w : Nat} {xs ys : List Int} (hx : Bits w xs) (hy : Bits w ys) : List.zipWith Builtin.bitXor xs ys = sumI [xs, ys] w := by
  unfold sumI
  rw [Int.toNat_natCast]
  refine List.ext_getElem? fun k => ?_
  rw [List.getElem?_zipWith, List.getElem?_map]
  by_cases hk : k < w
  · have e1 : xs[k]? = some (xs[k]'(by rw [hx.1]; exact hk)) := List.getElem?_eq_getElem _
    have e2 : ys[k]? = some (ys[k]'(by rw [hy.1]; exact hk)) := List.getElem?_eq_getElem _
    rw [e1, e2, List.getElem?_range hk]
    show some (Builtin.bitXor _ _) = some ((([xs, ys].map fun v => v.getD ((k : Int)).toNat 0).sum) % 2)
    rw [Int.toNat_natCast, bx _ _ (hx.2 _ (List.getElem_mem _)) (hy.2 _ (List.getElem_mem _))]
    simp only [List.map_cons, List.map_nil, List.sum_cons, List.sum_nil, List.getD_eq_getElem?_getD, e1, e2, Option.getD_some]
    congr 2
    omega
  · rw [List.getElem?_eq_none (by rw [hx.1]; omega), List.getElem?_eq_none (by rw [hy.1]; omega), List.getElem?_eq_none (by rw [List.length_range]; omega)]
    rfl

def R_law : List Ar → PyData → Prop := fun ars d => ∃ ns : List Int, ars = [.scr ns] ∧ d = .bool true
theorem ok_law {M : Md} {f : Addr} {fd : FuncData} {k : Nat} (Fu : Fun M.K "law" "law" sLaw f fd) (hC : FnA M 1 "_law_cell_at" R_cell) (hB : FnA M 2 "_law_bits" R_bits) (hS : FnA M 1 "_law_sum" R_sum) (hZ : FnA M 2 "_law_sizes" R_sizes) (hT : FnA M 2 "_law_set" R_set) (hU : FnA M 2 "_law_value" R_value) (hA : FnA M 1 "added" R_added) (hV : FnA M 2 "value_of" R_valof) (hR : FnA M 3 "_law_refused" R_refused) (hO : FnA M 2 "_law_odd_list" R_oddl) (hk : 3 ≤ k)
    (m1 : M.mg "range" = none) (m2 : M.mg "list" = none) : FnOk M.P M.w M.K M.mg M.base (L2.CX M.P M.w) (k + 1) f fd ["_law_script"] (spP M.K R_law) := by
  refine pure_def 9 Fu scLaw (fun ars d h => ?_) rfl fun X F σ ars d Γ C Bk h hΓ E => ?_
  · obtain ⟨_, rfl, _⟩ := h; rfl
  obtain ⟨ns, rfl, rfl⟩ := h
  simp only [List.map_cons, List.map_nil, Ar.kd, List.cons_append, List.nil_append, List.replicate] at hΓ
  subst hΓ
  have hk1 : 1 ≤ k := by omega
  have hk2 : 2 ≤ k := by omega
  walk_at "twoL"
  case s6 => rfl
  case s4 => walk_at "nrm"
  intro σ G H E
  have b1 := manyI_bd (cellAt ns 0)
  have b2 := wideI_bd (cellAt ns 1)
  generalize manyI (cellAt ns 0) = many at *
  generalize wideI (cellAt ns 1) = wide at *
  walk_at "setlc"
  rename_i E
  obtain ⟨L, hL⟩ : ∃ L : List (List Int), L = (List.range many.toNat).map fun (j : Nat) => bitsI (cellAt ns 3 + 101 * (j : Int)) wide := ⟨_, rfl⟩
  have eL : (List.map (fun (j : Nat) => bitsI (cellAt ns 3 + 101 * (j : Int)) wide) (List.range many.toNat)) = L := hL.symm
  rw [eL] at E
  have lL : L.length = many.toNat := by rw [hL, List.length_map, List.length_range]
  have bL : ∀ v ∈ L, Bits wide.toNat v := fun v hv => by
    rw [hL] at hv
    obtain ⟨j, _, rfl⟩ := List.mem_map.mp hv
    exact bitsI_bits
  have nL : L ≠ [] := fun z => by rw [z] at lL; simp at lL; omega
  clear hL eL
  have hww : ((wide.toNat : Nat) : Int) = wide := by omega
  have hmm : ((many.toNat : Nat) : Int) = many := by omega
  have w0 : (L.getD 0 []).length = wide.toNat := by
    cases hq : L with
    | nil => exact absurd hq nL
    | cons v r => exact (bL v (by rw [hq]; exact List.mem_cons_self)).1
  have p1 : ∀ v ∈ L, v.length = (L.getD 0 []).length := fun v hv => by rw [w0]; exact (bL v hv).1
  have p2 : 1 ≤ (L.getD 0 []).length := by rw [w0]; omega
  have p3 : (L.getD 0 []).length ≤ 1000 := by rw [w0]; omega
  have p4 : L.length ≤ 1000 := by rw [lL]; omega
  walk_at "set"
  walk_at "set"
  have x1 : Bits wide.toNat (bitsI (cellAt ns 4) wide) := bitsI_bits
  have x2 : Bits wide.toNat (bitsI (cellAt ns 5) wide) := bitsI_bits
  generalize bitsI (cellAt ns 4) wide = one at *
  generalize bitsI (cellAt ns 5) wide = other at *
  have x3 : one.length = other.length := by rw [x1.1, x2.1]
  have x4 : ∀ v ∈ [one, other], wide ≤ (v.length : Int) := fun v hv => by
    simp only [List.mem_cons, List.not_mem_nil, or_false] at hv
    rcases hv with rfl | rfl
    · rw [x1.1]; omega
    · rw [x2.1]; omega
  walk_at "set"
  walk_at "if"
  · rename_i hc _ _ _
    exfalso
    have hx := xor_sumI x1 x2
    rw [hww] at hx
    rw [hx, eqD_rfl] at hc
    have hq : (((sumI [one, other] wide).length : Nat) : Int) = wide := by rw [← hx, List.length_zipWith, x1.1, x2.1]; omega
    simp [hq, x1.1, x2.1, hww] at hc
  · refine ws_nil ?_
    have q1 := setI_rises (c := cellAt ns 2) b1.1
    have q2 := setI_len (c := cellAt ns 2) b1.1 (by omega)
    walk_at "set"
    generalize setI (cellAt ns 2) many = ps at *
    have q3 := (risesF_iff.mp q1).2
    have q4 : risesF (-1) L.length ps = true := by rw [lL, hmm]; exact q1
    walk_at "set"
    walk_at "set"
    walk_at "if"
    · rename_i hc _ _ _
      exfalso
      have hq := valI_len (L := L) (w := wide.toNat) (fun v hv => (bL v hv).1) ps (List.replicate (L.getD 0 []).length 0) (by rw [List.length_replicate, w0]) (fun p hp => by have := q3 p hp; omega)
      have hq' : (((valI L ps).length : Nat) : Int) = wide := by
        have : (valI L ps).length = wide.toNat := hq
        rw [this]; omega
      simp [eqD_rfl, hq'] at hc
    · refine ws_nil ?_
      refine' ws_if (by assumption) ?s1 ?s2 ?s3
      case' s1 => walk_at "tp"
      case s2 =>
        intro hc _ _ _
        exfalso
        have hv := valI_sumI bL nL (ps := ps) (fun p hp => by have := q3 p hp; omega)
        rw [hww] at hv
        rw [hv, eqD_rfl] at hc
        cases hc
      case s3 =>
        intro hc _ _ _
        refine ws_nil ?_
        have hb : risesF (-1) L.length (oddL ps many (cellAt ns 6)) = false := by rw [lL, hmm]; exact oddL_bad b1.1
        walk_at "ret"
        rfl
      all_goals first
        | (have := q3 _ (by assumption); omega)
        | (intro v hv; obtain ⟨p, hp, rfl⟩ := List.mem_map.mp hv; have := q3 p hp; rw [getD_len (w := wide.toNat) (fun v hv => (bL v hv).1) (by omega) (by omega)]; omega)

theorem law_in {K : PySem.W.Frag} {H : Hp} {a : Addr} {ns : List Int} (hl : ns.length ≤ 63) (hS : SqL K H a (ns.map V.int)) : spP K R_law [.ref a] H (fun v _ => v = .bl true) (fun _ _ _ => False) :=
  ⟨H, [.scr ns], .bool true, .refl H, ⟨ns, rfl, rfl⟩, .cons ⟨a, rfl, hS, hl⟩ .nil, fun _ _ _ _ r => r.bl_inv⟩
theorem law_out {P : Program} {w : World} {H : Hp} {s : Shared} {e : Value} {s' : Shared} (h : L2.CX P w [] H s (fun _ _ _ => False) e s') : False := by
  obtain ⟨_, _, _, _, _, _, _, _, _, _, _, _, z⟩ := h
  exact z.elim
theorem all_mk {l : PySem.W.OpenLaw} {w : World} {K : PySem.W.Frag} {h : Heap} {mg : Str → Option Value} {fa f0 f1 f2 f3 f4 f5 f6 f7 f8 f9 f10 f11 f12 f13 f14 : Addr} {od0 an0 od1 an1 od2 an2 od3 an3 od4 an4 od5 an5 od6 an6 od7 an7 od8 an8 od9 an9 od10 an10 od11 an11 od12 an12 od13 an13 od14 an14 : Option Addr} {sl0 sl1 sl2 sl3 sl4 sl5 sl6 sl7 sl8 sl9 sl10 sl11 sl12 sl13 sl14 : Array (Option Value)} {oc0 kV0 dc0 pm0 cd0 ct0 oc1 kV1 dc1 pm1 cd1 ct1 oc2 kV2 dc2 pm2 cd2 ct2 oc3 kV3 dc3 pm3 cd3 ct3 oc4 kV4 dc4 pm4 cd4 ct4 oc5 kV5 dc5 pm5 cd5 ct5 oc6 kV6 dc6 pm6 cd6 ct6 oc7 kV7 dc7 pm7 cd7 ct7 oc8 kV8 dc8 pm8 cd8 ct8 oc9 kV9 dc9 pm9 cd9 ct9 oc10 kV10 dc10 pm10 cd10 ct10 oc11 kV11 dc11 pm11 cd11 ct11 oc12 kV12 dc12 pm12 cd12 ct12 oc13 kV13 dc13 pm13 cd13 ct13 oc14 kV14 dc14 pm14 cd14 ct14 : Value}{CB CR CBadText CBadValue CFull CIsOut CNoParcel CNoYard CNotOut : Addr} (X : K.In h) (G : h.Ns mainGlobals mg) (hfa : mg "law" = some (.ref fa))
    (a0 : PySem.W.nsIn K mainGlobals "_law_whole" = some (some (.ref f0)))
    (l0 : K.lookup f0 = some ⟨oc0, od0, .func (PySem.W.fnOf "_law_whole" "_law_whole" (defArgs sWhole) (defBody sWhole) (defScope sWhole) .none kV0 dc0 pm0 an0 cd0 ct0), sl0⟩)
    (c0 : PySem.W.codeIn K cd0 "_law_whole" = true) (k0 : PySem.W.keepIn K (.ref f0) = true)
    (a1 : PySem.W.nsIn K mainGlobals "_law_cell_at" = some (some (.ref f1)))
    (l1 : K.lookup f1 = some ⟨oc1, od1, .func (PySem.W.fnOf "_law_cell_at" "_law_cell_at" (defArgs sCell) (defBody sCell) (defScope sCell) .none kV1 dc1 pm1 an1 cd1 ct1), sl1⟩)
    (c1 : PySem.W.codeIn K cd1 "_law_cell_at" = true) (k1 : PySem.W.keepIn K (.ref f1) = true)
    (a2 : PySem.W.nsIn K mainGlobals "_law_mix" = some (some (.ref f2)))
    (l2 : K.lookup f2 = some ⟨oc2, od2, .func (PySem.W.fnOf "_law_mix" "_law_mix" (defArgs sMix) (defBody sMix) (defScope sMix) .none kV2 dc2 pm2 an2 cd2 ct2), sl2⟩)
    (c2 : PySem.W.codeIn K cd2 "_law_mix" = true) (k2 : PySem.W.keepIn K (.ref f2) = true)
    (a3 : PySem.W.nsIn K mainGlobals "_law_mixed" = some (some (.ref f3)))
    (l3 : K.lookup f3 = some ⟨oc3, od3, .func (PySem.W.fnOf "_law_mixed" "_law_mixed" (defArgs sMixed) (defBody sMixed) (defScope sMixed) .none kV3 dc3 pm3 an3 cd3 ct3), sl3⟩)
    (c3 : PySem.W.codeIn K cd3 "_law_mixed" = true) (k3 : PySem.W.keepIn K (.ref f3) = true)
    (a4 : PySem.W.nsIn K mainGlobals "_law_bits" = some (some (.ref f4)))
    (l4 : K.lookup f4 = some ⟨oc4, od4, .func (PySem.W.fnOf "_law_bits" "_law_bits" (defArgs sBits) (defBody sBits) (defScope sBits) .none kV4 dc4 pm4 an4 cd4 ct4), sl4⟩)
    (c4 : PySem.W.codeIn K cd4 "_law_bits" = true) (k4 : PySem.W.keepIn K (.ref f4) = true)
    (a5 : PySem.W.nsIn K mainGlobals "_law_set" = some (some (.ref f5)))
    (l5 : K.lookup f5 = some ⟨oc5, od5, .func (PySem.W.fnOf "_law_set" "_law_set" (defArgs sSet) (defBody sSet) (defScope sSet) .none kV5 dc5 pm5 an5 cd5 ct5), sl5⟩)
    (c5 : PySem.W.codeIn K cd5 "_law_set" = true) (k5 : PySem.W.keepIn K (.ref f5) = true)
    (a6 : PySem.W.nsIn K mainGlobals "_law_sum" = some (some (.ref f6)))
    (l6 : K.lookup f6 = some ⟨oc6, od6, .func (PySem.W.fnOf "_law_sum" "_law_sum" (defArgs sSum) (defBody sSum) (defScope sSum) .none kV6 dc6 pm6 an6 cd6 ct6), sl6⟩)
    (c6 : PySem.W.codeIn K cd6 "_law_sum" = true) (k6 : PySem.W.keepIn K (.ref f6) = true)
    (a7 : PySem.W.nsIn K mainGlobals "_law_sizes" = some (some (.ref f7)))
    (l7 : K.lookup f7 = some ⟨oc7, od7, .func (PySem.W.fnOf "_law_sizes" "_law_sizes" (defArgs sSizes) (defBody sSizes) (defScope sSizes) .none kV7 dc7 pm7 an7 cd7 ct7), sl7⟩)
    (c7 : PySem.W.codeIn K cd7 "_law_sizes" = true) (k7 : PySem.W.keepIn K (.ref f7) = true)
    (a8 : PySem.W.nsIn K mainGlobals "_law_value" = some (some (.ref f8)))
    (l8 : K.lookup f8 = some ⟨oc8, od8, .func (PySem.W.fnOf "_law_value" "_law_value" (defArgs sValue) (defBody sValue) (defScope sValue) .none kV8 dc8 pm8 an8 cd8 ct8), sl8⟩)
    (c8 : PySem.W.codeIn K cd8 "_law_value" = true) (k8 : PySem.W.keepIn K (.ref f8) = true)
    (a9 : PySem.W.nsIn K mainGlobals "added" = some (some (.ref f9)))
    (l9 : K.lookup f9 = some ⟨oc9, od9, .func (PySem.W.fnOf "added" "added" (defArgs sAdded) (defBody sAdded) (defScope sAdded) .none kV9 dc9 pm9 an9 cd9 ct9), sl9⟩)
    (c9 : PySem.W.codeIn K cd9 "added" = true) (k9 : PySem.W.keepIn K (.ref f9) = true)
    (a10 : PySem.W.nsIn K mainGlobals "rising_within" = some (some (.ref f10)))
    (l10 : K.lookup f10 = some ⟨oc10, od10, .func (PySem.W.fnOf "rising_within" "rising_within" (defArgs sRises) (defBody sRises) (defScope sRises) .none kV10 dc10 pm10 an10 cd10 ct10), sl10⟩)
    (c10 : PySem.W.codeIn K cd10 "rising_within" = true) (k10 : PySem.W.keepIn K (.ref f10) = true)
    (a11 : PySem.W.nsIn K mainGlobals "value_of" = some (some (.ref f11)))
    (l11 : K.lookup f11 = some ⟨oc11, od11, .func (PySem.W.fnOf "value_of" "value_of" (defArgs sValof) (defBody sValof) (defScope sValof) .none kV11 dc11 pm11 an11 cd11 ct11), sl11⟩)
    (c11 : PySem.W.codeIn K cd11 "value_of" = true) (k11 : PySem.W.keepIn K (.ref f11) = true)
    (a12 : PySem.W.nsIn K mainGlobals "_law_refused" = some (some (.ref f12)))
    (l12 : K.lookup f12 = some ⟨oc12, od12, .func (PySem.W.fnOf "_law_refused" "_law_refused" (defArgs sRefused) (defBody sRefused) (defScope sRefused) .none kV12 dc12 pm12 an12 cd12 ct12), sl12⟩)
    (c12 : PySem.W.codeIn K cd12 "_law_refused" = true) (k12 : PySem.W.keepIn K (.ref f12) = true)
    (a13 : PySem.W.nsIn K mainGlobals "_law_odd_list" = some (some (.ref f13)))
    (l13 : K.lookup f13 = some ⟨oc13, od13, .func (PySem.W.fnOf "_law_odd_list" "_law_odd_list" (defArgs sOddList) (defBody sOddList) (defScope sOddList) .none kV13 dc13 pm13 an13 cd13 ct13), sl13⟩)
    (c13 : PySem.W.codeIn K cd13 "_law_odd_list" = true) (k13 : PySem.W.keepIn K (.ref f13) = true)
    (a14 : PySem.W.nsIn K mainGlobals "law" = some (some (.ref f14)))
    (l14 : K.lookup f14 = some ⟨oc14, od14, .func (PySem.W.fnOf "law" "law" (defArgs sLaw) (defBody sLaw) (defScope sLaw) .none kV14 dc14 pm14 an14 cd14 ct14), sl14⟩)
    (c14 : PySem.W.codeIn K cd14 "law" = true) (k14 : PySem.W.keepIn K (.ref f14) = true)
    (z_len : PySem.W.nsIn K mainGlobals "len" = some none)
    (z_range : PySem.W.nsIn K mainGlobals "range" = some none)
    (z_list : PySem.W.nsIn K mainGlobals "list" = some none)
    (z_isinstance : PySem.W.nsIn K mainGlobals "isinstance" = some none)
    (z_int : PySem.W.nsIn K mainGlobals "int" = some none)
    (z_bool : PySem.W.nsIn K mainGlobals "bool" = some none)
    (z_tuple : PySem.W.nsIn K mainGlobals "tuple" = some none)
    (z_sum : PySem.W.nsIn K mainGlobals "sum" = some none)
    (z_zip : PySem.W.nsIn K mainGlobals "zip" = some none)
    (z_sorted : PySem.W.nsIn K mainGlobals "sorted" = some none)
    (z_set : PySem.W.nsIn K mainGlobals "set" = some none)
    (z_ValueError : PySem.W.nsIn K mainGlobals "ValueError" = some none)
    (gB : PySem.W.nsIn K mainGlobals "BadPlaces" = some (some (.ref CB)))
    (xB : PySem.W.excIn K CB [.type "ValueError", .type "Exception", .type "BaseException", .type "object"] "ValueError.__new__" = true)
    (kB : PySem.W.keepIn K (.ref CB) = true)
    (sB : PySem.W.subIn K (.ref CB) (.type "BaseException") = some true)
    (tB : PySem.W.typeIn K (.ref CB) = some (.type "type"))
    (e1 : PySem.W.findIn K (.ref CB) "__getattribute__" = some (some (.builtin "BaseException.__getattribute__")))
    (e2 : PySem.W.findIn K (.ref CB) "__getattr__" = some none)
    (e4 : PySem.W.hasDictIn K CB = true)
    (e5 : PySem.W.findIn K (.ref CB) "__class__" = some (some (.builtin "object.__class__")))
    (e6 : PySem.W.specialIn K (.builtin "object.__class__") "__get__" = some (some (.builtin "getset_descriptor.__get__")))
    (e7 : PySem.W.takesIn K (.builtin "object.__class__") = some true)
    (e8 : PySem.W.mroIn K CB (.type "object") = some true)
    (gR : PySem.W.nsIn K mainGlobals "RainError" = some (some (.ref CR)))
    (r1 : PySem.W.subIn K (.ref CR) (.type "BaseException") = some true)
    (r2 : PySem.W.hasDictIn K CR = true)
    (r3 : PySem.W.typeIn K (.ref CR) = some (.type "type"))
    (r4 : PySem.W.subIn K (.ref CB) (.ref CR) = some true)
    (qB : PySem.W.kitOne K (.ref CB) (.ref CB) = some true)
    (kv : PySem.W.kitOne K (.ref CB) (.type "ValueError") = some true)
    (gBadText : PySem.W.nsIn K mainGlobals "BadText" = some (some (.ref CBadText)))
    (qBadText : PySem.W.kitOne K (.ref CB) (.ref CBadText) = some false)
    (gBadValue : PySem.W.nsIn K mainGlobals "BadValue" = some (some (.ref CBadValue)))
    (qBadValue : PySem.W.kitOne K (.ref CB) (.ref CBadValue) = some false)
    (gFull : PySem.W.nsIn K mainGlobals "Full" = some (some (.ref CFull)))
    (qFull : PySem.W.kitOne K (.ref CB) (.ref CFull) = some false)
    (gIsOut : PySem.W.nsIn K mainGlobals "IsOut" = some (some (.ref CIsOut)))
    (qIsOut : PySem.W.kitOne K (.ref CB) (.ref CIsOut) = some false)
    (gNoParcel : PySem.W.nsIn K mainGlobals "NoParcel" = some (some (.ref CNoParcel)))
    (qNoParcel : PySem.W.kitOne K (.ref CB) (.ref CNoParcel) = some false)
    (gNoYard : PySem.W.nsIn K mainGlobals "NoYard" = some (some (.ref CNoYard)))
    (qNoYard : PySem.W.kitOne K (.ref CB) (.ref CNoYard) = some false)
    (gNotOut : PySem.W.nsIn K mainGlobals "NotOut" = some (some (.ref CNotOut)))
    (qNotOut : PySem.W.kitOne K (.ref CB) (.ref CNotOut) = some false) :
    ∃ fd : FuncData, (∀ (s : Shared) (v : Value), BindsTo s fd ⟨[v], []⟩ [("_law_script", v)]) ∧ ∀ base : Heap, K.In base → base.Ns mainGlobals mg → FnOk l.prog w K mg base (L2.CX l.prog w) 4 fa fd ["_law_script"] (spP K R_law) := by
  have e := hfa.symm.trans (PySem.W.mg_of X G a14)
  cases e
  have F0 := fun_mk (st := sWhole) l0 c0 k0
  have F1 := fun_mk (st := sCell) l1 c1 k1
  have F2 := fun_mk (st := sMix) l2 c2 k2
  have F3 := fun_mk (st := sMixed) l3 c3 k3
  have F4 := fun_mk (st := sBits) l4 c4 k4
  have F5 := fun_mk (st := sSet) l5 c5 k5
  have F6 := fun_mk (st := sSum) l6 c6 k6
  have F7 := fun_mk (st := sSizes) l7 c7 k7
  have F8 := fun_mk (st := sValue) l8 c8 k8
  have F9 := fun_mk (st := sAdded) l9 c9 k9
  have F10 := fun_mk (st := sRises) l10 c10 k10
  have F11 := fun_mk (st := sValof) l11 c11 k11
  have F12 := fun_mk (st := sRefused) l12 c12 k12
  have F13 := fun_mk (st := sOddList) l13 c13 k13
  have F14 := fun_mk (st := sLaw) l14 c14 k14
  refine ⟨PySem.W.fnOf "law" "law" (defArgs sLaw) (defBody sLaw) (defScope sLaw) .none kV14 dc14 pm14 an14 cd14 ct14, fun s v => .of_eq rfl, fun base _ _ => ?_⟩
  let M : Md := ⟨l.prog, w, K, mg, base⟩
  have m_len : M.mg "len" = none := PySem.W.mg_none_of X G z_len
  have m_range : M.mg "range" = none := PySem.W.mg_none_of X G z_range
  have m_list : M.mg "list" = none := PySem.W.mg_none_of X G z_list
  have m_isinstance : M.mg "isinstance" = none := PySem.W.mg_none_of X G z_isinstance
  have m_int : M.mg "int" = none := PySem.W.mg_none_of X G z_int
  have m_bool : M.mg "bool" = none := PySem.W.mg_none_of X G z_bool
  have m_tuple : M.mg "tuple" = none := PySem.W.mg_none_of X G z_tuple
  have m_sum : M.mg "sum" = none := PySem.W.mg_none_of X G z_sum
  have m_zip : M.mg "zip" = none := PySem.W.mg_none_of X G z_zip
  have m_sorted : M.mg "sorted" = none := PySem.W.mg_none_of X G z_sorted
  have m_set : M.mg "set" = none := PySem.W.mg_none_of X G z_set
  have m_ValueError : M.mg "ValueError" = none := PySem.W.mg_none_of X G z_ValueError
  have LB : ClsX M "BadPlaces" CB := ⟨PySem.W.mg_of X G gB, xB, kB, sB, tB⟩
  have EC : ExcC M.K CB := ⟨e1, e2, sB, e4, e5, e6, e7, e8⟩
  have hR : PySem.W.exmOne M.K (.ref CB) (.ref CR) = some true := PySem.W.exm_ref r1 r2 r3 r4
  have kin : ∀ {x : Str} {C : Addr} {t : Bool}, PySem.W.nsIn K mainGlobals x = some (some (.ref C)) → PySem.W.kitOne K (.ref CB) (.ref C) = some t → Kin M CB x t := fun g q => ⟨_, PySem.W.mg_of X G g, q⟩
  have b0 := F0.binds (ps := ["_law_found"]) fun _ _ _ _ _ _ us hl => match us, hl with | [_], _ => rfl
  have A_whole : FnA M 1 "_law_whole" _ := FnA.mk' (ok_whole (M := M) (k := 0) F0 m_isinstance m_int m_bool) (PySem.W.mg_of X G a0) k0 b0
  have b1 := F1.binds (ps := ["_law_script", "_law_k"]) fun _ _ _ _ _ _ us hl => match us, hl with | [_, _], _ => rfl
  have A_cell : FnA M 1 "_law_cell_at" _ := FnA.mk' (ok_cell (M := M) (k := 0) F1 m_len) (PySem.W.mg_of X G a1) k1 b1
  have b2 := F2.binds (ps := ["_law_cell", "_law_prime", "_law_many"]) fun _ _ _ _ _ _ us hl => match us, hl with | [_, _, _], _ => rfl
  have A_mix : FnA M 1 "_law_mix" _ := FnA.mk' (ok_mix (M := M) (k := 0) F2 ) (PySem.W.mg_of X G a2) k2 b2
  have b3 := F3.binds (ps := ["_law_cell", "_law_k", "_law_many"]) fun _ _ _ _ _ _ us hl => match us, hl with | [_, _, _], _ => rfl
  have A_mixed : FnA M 1 "_law_mixed" _ := FnA.mk' (ok_mixed (M := M) (k := 0) F3 ) (PySem.W.mg_of X G a3) k3 b3
  have b4 := F4.binds (ps := ["_law_cell", "_law_wide"]) fun _ _ _ _ _ _ us hl => match us, hl with | [_, _], _ => rfl
  have A_bits : FnA M 2 "_law_bits" _ := FnA.mk' (ok_bits (M := M) (k := 1) F4 A_mixed (by decide) m_range m_tuple) (PySem.W.mg_of X G a4) k4 b4
  have b5 := F5.binds (ps := ["_law_cell", "_law_many"]) fun _ _ _ _ _ _ us hl => match us, hl with | [_, _], _ => rfl
  have A_set : FnA M 2 "_law_set" _ := FnA.mk' (ok_set (M := M) (k := 1) F5 A_mix A_mixed (by decide) m_range m_sorted m_set) (PySem.W.mg_of X G a5) k5 b5
  have b6 := F6.binds (ps := ["_law_values", "_law_wide"]) fun _ _ _ _ _ _ us hl => match us, hl with | [_, _], _ => rfl
  have A_sum : FnA M 1 "_law_sum" _ := FnA.mk' (ok_sum (M := M) (k := 0) F6 m_range m_tuple m_sum) (PySem.W.mg_of X G a6) k6 b6
  have b7 := F7.binds (ps := ["_law_one", "_law_other"]) fun _ _ _ _ _ _ us hl => match us, hl with | [_, _], _ => rfl
  have A_sizes : FnA M 2 "_law_sizes" _ := FnA.mk' (ok_sizes (M := M) (k := 1) F7 A_mix (by decide)) (PySem.W.mg_of X G a7) k7 b7
  have b8 := F8.binds (ps := ["_law_found", "_law_wide"]) fun _ _ _ _ _ _ us hl => match us, hl with | [_, _], _ => rfl
  have A_value : FnA M 2 "_law_value" _ := FnA.mk' (ok_value (M := M) (k := 1) F8 A_whole (by decide) m_isinstance m_tuple m_len) (PySem.W.mg_of X G a8) k8 b8
  have b9 := F9.binds (ps := ["one", "other"]) fun _ _ _ _ _ _ us hl => match us, hl with | [_, _], _ => rfl
  have A_added : FnA M 1 "added" _ := FnA.mk' (ok_added (M := M) (k := 0) F9 m_zip m_tuple) (PySem.W.mg_of X G a9) k9 b9
  have b10 := F10.binds (ps := ["places", "many"]) fun _ _ _ _ _ _ us hl => match us, hl with | [_, _], _ => rfl
  have A_rises : FnA M 1 "rising_within" _ := FnA.mk' (ok_rises (M := M) (k := 0) F10 ) (PySem.W.mg_of X G a10) k10 b10
  have b11 := F11.binds (ps := ["load", "places"]) fun _ _ _ _ _ _ us hl => match us, hl with | [_, _], _ => rfl
  have X_valof : FnX M 2 "value_of" _ _ := FnX.mk' (ok_valof (M := M) (k := 1) F11 LB A_rises A_added (by decide) m_len) (PySem.W.mg_of X G a11) k11 b11
  have b12 := F12.binds (ps := ["_law_load", "_law_places"]) fun _ _ _ _ _ _ us hl => match us, hl with | [_, _], _ => rfl
  have A_refused : FnA M 3 "_law_refused" _ := FnA.mk' (ok_refused (M := M) (k := 2) F12 X_valof (by decide) EC (PySem.W.mg_of X G gR) hR (kin gBadText qBadText) (kin gBadValue qBadValue) (kin gFull qFull) (kin gIsOut qIsOut) (kin gNoParcel qNoParcel) (kin gNoYard qNoYard) (kin gNotOut qNotOut) (kin gB qB) kv m_isinstance m_ValueError) (PySem.W.mg_of X G a12) k12 b12
  have b13 := F13.binds (ps := ["_law_places", "_law_many", "_law_cell"]) fun _ _ _ _ _ _ us hl => match us, hl with | [_, _, _], _ => rfl
  have A_oddl : FnA M 2 "_law_odd_list" _ := FnA.mk' (ok_oddl (M := M) (k := 1) F13 A_mix (by decide) m_len) (PySem.W.mg_of X G a13) k13 b13
  exact ok_law (M := M) (k := 3) F14 A_cell A_bits A_sum A_sizes A_set A_value A_added X_valof.fn A_refused A_oddl (by decide) m_range m_list

end Rn

open PySem PySem.W PyProof.Rows
theorem PySem.Challenge.cw_rainparcels_k02_sums_of_pieces_holds : PySem.Challenge.rw_rainparcels_k02_sums_of_pieces.Holds := by
  w_on; o_law; k_head; (case hw => w_witness2)
  k_fill
  refine L2.walk_of (l := PySem.Challenge.rw_rainparcels_k02_sums_of_pieces) (n := 63) (k := 4) (x := "_law_script") (CX := fun w => L2.CX PySem.Challenge.rw_rainparcels_k02_sums_of_pieces.prog w) (sp := fun w => Rn.spP _ Rn.R_law) rfl (by decide) rfl ⟨rfl, by decide, by decide⟩ (fun w h Y => PySem.W.kIn_of Y) ?F (fun w H a ns hl _ hS => Rn.law_in hl hS) (fun _ _ _ _ _ h => Rn.law_out h)
  case F =>
    intro w mg fa h KX G hmg
    refine' Rn.all_mk KX G hmg ?a0 ?l0 ?c0 ?k0 ?a1 ?l1 ?c1 ?k1 ?a2 ?l2 ?c2 ?k2 ?a3 ?l3 ?c3 ?k3 ?a4 ?l4 ?c4 ?k4 ?a5 ?l5 ?c5 ?k5 ?a6 ?l6 ?c6 ?k6 ?a7 ?l7 ?c7 ?k7 ?a8 ?l8 ?c8 ?k8 ?a9 ?l9 ?c9 ?k9 ?a10 ?l10 ?c10 ?k10 ?a11 ?l11 ?c11 ?k11 ?a12 ?l12 ?c12 ?k12 ?a13 ?l13 ?c13 ?k13 ?a14 ?l14 ?c14 ?k14 ?z_len ?z_range ?z_list ?z_isinstance ?z_int ?z_bool ?z_tuple ?z_sum ?z_zip ?z_sorted ?z_set ?z_ValueError ?gB ?xB ?kB ?sB ?tB ?e1 ?e2 ?e4 ?e5 ?e6 ?e7 ?e8 ?gR ?r1 ?r2 ?r3 ?r4 ?qB ?kv ?gBadText ?qBadText ?gBadValue ?qBadValue ?gFull ?qFull ?gIsOut ?qIsOut ?gNoParcel ?qNoParcel ?gNoYard ?qNoYard ?gNotOut ?qNotOut
    (case a0 => k_is)
    (case l0 => k_is)
    (case c0 => k_is)
    (case k0 => k_is)
    (case a1 => k_is)
    (case l1 => k_is)
    (case c1 => k_is)
    (case k1 => k_is)
    (case a2 => k_is)
    (case l2 => k_is)
    (case c2 => k_is)
    (case k2 => k_is)
    (case a3 => k_is)
    (case l3 => k_is)
    (case c3 => k_is)
    (case k3 => k_is)
    (case a4 => k_is)
    (case l4 => k_is)
    (case c4 => k_is)
    (case k4 => k_is)
    (case a5 => k_is)
    (case l5 => k_is)
    (case c5 => k_is)
    (case k5 => k_is)
    (case a6 => k_is)
    (case l6 => k_is)
    (case c6 => k_is)
    (case k6 => k_is)
    (case a7 => k_is)
    (case l7 => k_is)
    (case c7 => k_is)
    (case k7 => k_is)
    (case a8 => k_is)
    (case l8 => k_is)
    (case c8 => k_is)
    (case k8 => k_is)
    (case a9 => k_is)
    (case l9 => k_is)
    (case c9 => k_is)
    (case k9 => k_is)
    (case a10 => k_is)
    (case l10 => k_is)
    (case c10 => k_is)
    (case k10 => k_is)
    (case a11 => k_is)
    (case l11 => k_is)
    (case c11 => k_is)
    (case k11 => k_is)
    (case a12 => k_is)
    (case l12 => k_is)
    (case c12 => k_is)
    (case k12 => k_is)
    (case a13 => k_is)
    (case l13 => k_is)
    (case c13 => k_is)
    (case k13 => k_is)
    (case a14 => k_is)
    (case l14 => k_is)
    (case c14 => k_is)
    (case k14 => k_is)
    (case z_len => k_is)
    (case z_range => k_is)
    (case z_list => k_is)
    (case z_isinstance => k_is)
    (case z_int => k_is)
    (case z_bool => k_is)
    (case z_tuple => k_is)
    (case z_sum => k_is)
    (case z_zip => k_is)
    (case z_sorted => k_is)
    (case z_set => k_is)
    (case z_ValueError => k_is)
    (case gB => k_is)
    (case xB => k_exc)
    (case kB => k_is)
    (case sB => k_is)
    (case tB => k_is)
    (case e1 => k_is)
    (case e2 => k_is)
    (case e4 => k_is)
    (case e5 => k_is)
    (case e6 => k_is)
    (case e7 => k_is)
    (case e8 => k_is)
    (case gR => k_is)
    (case r1 => k_is)
    (case r2 => k_is)
    (case r3 => k_is)
    (case r4 => k_is)
    (case qB => kit_is)
    (case kv => kit_is)
    (case gBadText => k_is)
    (case qBadText => kit_is)
    (case gBadValue => k_is)
    (case qBadValue => kit_is)
    (case gFull => k_is)
    (case qFull => kit_is)
    (case gIsOut => k_is)
    (case qIsOut => kit_is)
    (case gNoParcel => k_is)
    (case qNoParcel => kit_is)
    (case gNoYard => k_is)
    (case qNoYard => kit_is)
    (case gNotOut => k_is)
    (case qNotOut => kit_is)
