import PyProof.Rows.All
import Wide.All
import OpenK.AllK
import Wide.FinOn
import HandS.ForMost
import HandS.ForExc
import HandS.IsInst
import HandS.ExcIs
import KE.RegKIsAll
import HandS.Conv
import HandS.TupAny
import HandS.SortInts
import HandS.TryOnly
import HandS.SetFor
import HandS.Strs
import HandS.Zip
import HandS.TupMul
import HandS.Walk
import HandS.Deep
import HandS.List
import HandS.DictComp
import PySem.Challenge.RW_rainparcels_k04_parcels_written
set_option Elab.async false
set_option linter.all false
set_option maxRecDepth 100000
set_option maxHeartbeats 4000000
namespace Rn
open PySem PySem.Spec PyProof.Rows L2

/-! ## data in a heap that stands still -/
def cap : Nat := 100000
theorem cap_le {n : Nat} (h : n ≤ cap) : n ≤ sizeLine := Nat.le_trans h (by decide)
theorem cap_lt {n : Nat} (h : n < cap) : n < sizeLine := Nat.lt_of_lt_of_le h (by decide)
theorem cap_lt' {n : Nat} (h : n ≤ cap) : n < sizeLine := Nat.lt_of_le_of_lt h (by decide)

mutual
inductive Rp (G : Hp) : V → PyData → Prop
  | non : Rp G .non .none
  | bl {b : Bool} : Rp G (.bl b) (.bool b)
  | int {i : Int} : Rp G (.int i) (.int i)
  | str {s : Str} : Rp G (.str s) (.str s)
  | lst {a : Addr} {vs : List V} {ds : List PyData} : G a = some (.lst vs) → ds.length ≤ cap → RpL G vs ds → Rp G (.ref a) (.list ds)
  | tup {a : Addr} {vs : List V} {ds : List PyData} : G a = some (.tup vs) → ds.length ≤ cap → RpL G vs ds → Rp G (.ref a) (.tuple ds)
inductive RpL (G : Hp) : List V → List PyData → Prop
  | nil : RpL G [] []
  | cons {v : V} {d : PyData} {vs : List V} {ds : List PyData} : Rp G v d → RpL G vs ds → RpL G (v :: vs) (d :: ds)
end

def Ex (H H' : Hp) : Prop := ∀ a o, H a = some o → H' a = some o
theorem Ex.refl (H : Hp) : Ex H H := fun _ _ h => h
theorem Ex.trans {H H1 H2 : Hp} (a : Ex H H1) (b : Ex H1 H2) : Ex H H2 := fun x o h => b x o (a x o h)
theorem Ex.none {H H' : Hp} (e : Ex H H') {a : Addr} (h : H' a = Option.none) : H a = Option.none := by
  cases q : H a with
  | none => rfl
  | some o => rw [e a o q] at h; cases h
theorem Ex.new {H : Hp} {p : Addr} {o : HO} (h : H p = Option.none) : Ex H (upd H p o) := fun a u e => by
  rw [upd_ne (ne_of_none e h)]; exact e

mutual
theorem Rp.mono {G G' : Hp} (e : Ex G G') : ∀ {v : V} {d : PyData}, Rp G v d → Rp G' v d
  | _, _, .non => .non
  | _, _, .bl => .bl
  | _, _, .int => .int
  | _, _, .str => .str
  | _, _, .lst h l r => .lst (e _ _ h) l (RpL.mono e r)
  | _, _, .tup h l r => .tup (e _ _ h) l (RpL.mono e r)
theorem RpL.mono {G G' : Hp} (e : Ex G G') : ∀ {vs : List V} {ds : List PyData}, RpL G vs ds → RpL G' vs ds
  | _, _, .nil => .nil
  | _, _, .cons h r => .cons (Rp.mono e h) (RpL.mono e r)
end
theorem RpL.len {G : Hp} : ∀ {vs : List V} {ds : List PyData}, RpL G vs ds → vs.length = ds.length
  | _, _, .nil => rfl
  | _, _, .cons _ r => by rw [List.length_cons, List.length_cons, r.len]
theorem RpL.get {G : Hp} : ∀ {vs : List V} {ds : List PyData} {i : Nat} {d : PyData}, RpL G vs ds → ds[i]? = some d → ∃ v, vs[i]? = some v ∧ Rp G v d
  | _, _, _, _, .nil, h => by simp at h
  | _, _, 0, _, .cons r _, h => by simp at h; subst h; exact ⟨_, rfl, r⟩
  | _, _, i + 1, _, .cons _ t, h => by
    obtain ⟨v, h1, h2⟩ := RpL.get (i := i) t (by simpa using h)
    exact ⟨v, by simpa using h1, h2⟩
theorem RpL.get' {G : Hp} : ∀ {vs : List V} {ds : List PyData} {i : Nat} {v : V}, RpL G vs ds → vs[i]? = some v → ∃ d, ds[i]? = some d ∧ Rp G v d
  | _, _, _, _, .nil, h => by simp at h
  | _, _, 0, _, .cons r _, h => by simp at h; subst h; exact ⟨_, rfl, r⟩
  | _, _, i + 1, _, .cons _ t, h => by
    obtain ⟨v, h1, h2⟩ := RpL.get' (i := i) t (by simpa using h)
    exact ⟨v, by simpa using h1, h2⟩
theorem RpL.append {G : Hp} : ∀ {vs ws : List V} {ds es : List PyData}, RpL G vs ds → RpL G ws es → RpL G (vs ++ ws) (ds ++ es)
  | _, _, _, _, .nil, s => s
  | _, _, _, _, .cons h r, s => .cons h (r.append s)
theorem RpL.take {G : Hp} : ∀ {vs : List V} {ds : List PyData} (n : Nat), RpL G vs ds → RpL G (vs.take n) (ds.take n)
  | _, _, 0, _ => by simpa using RpL.nil
  | _, _, _ + 1, .nil => .nil
  | _, _, n + 1, .cons h r => .cons h (r.take n)
theorem RpL.drop {G : Hp} : ∀ {vs : List V} {ds : List PyData} (n : Nat), RpL G vs ds → RpL G (vs.drop n) (ds.drop n)
  | _, _, 0, r => r
  | _, _, _ + 1, .nil => .nil
  | _, _, n + 1, .cons _ r => r.drop n
theorem RpL.set {G : Hp} {v : V} {d : PyData} (h : Rp G v d) : ∀ {vs : List V} {ds : List PyData} (n : Nat), RpL G vs ds → RpL G (vs.set n v) (ds.set n d)
  | _, _, _, .nil => .nil
  | _, _, 0, .cons _ r => .cons h r
  | _, _, n + 1, .cons q r => .cons q (r.set h n)
theorem RpL.ints {G : Hp} : ∀ (ns : List Int), RpL G (ns.map V.int) (ns.map PyData.int)
  | [] => .nil
  | _ :: r => .cons .int (RpL.ints r)
theorem RpL.ints_inv {G : Hp} : ∀ {vs : List V} {ns : List Int}, RpL G vs (ns.map PyData.int) → vs = ns.map V.int
  | _, [], .nil => rfl
  | _, n :: r, h => by
    cases h with
    | cons a b => cases a; rw [RpL.ints_inv b]; rfl
theorem Rp.int_inv {G : Hp} {v : V} {i : Int} (h : Rp G v (.int i)) : v = .int i := by cases h; rfl
theorem Rp.bl_inv {G : Hp} {v : V} {b : Bool} (h : Rp G v (.bool b)) : v = .bl b := by cases h; rfl
theorem Rp.str_inv {G : Hp} {v : V} {s : Str} (h : Rp G v (.str s)) : v = .str s := by cases h; rfl
theorem Rp.non_inv {G : Hp} {v : V} (h : Rp G v .none) : v = .non := by cases h; rfl
theorem Rp.lst_inv {G : Hp} {v : V} {ds : List PyData} (h : Rp G v (.list ds)) : ∃ a vs, v = .ref a ∧ G a = some (.lst vs) ∧ ds.length ≤ cap ∧ RpL G vs ds := by
  cases h with | lst a b c => exact ⟨_, _, rfl, a, b, c⟩
theorem Rp.tup_inv {G : Hp} {v : V} {ds : List PyData} (h : Rp G v (.tuple ds)) : ∃ a vs, v = .ref a ∧ G a = some (.tup vs) ∧ ds.length ≤ cap ∧ RpL G vs ds := by
  cases h with | tup a b c => exact ⟨_, _, rfl, a, b, c⟩

mutual
theorem Rp.dp {K : PySem.W.Frag} {G H : Hp} (e : Ex G H) : ∀ {v : V} {d : PyData}, Rp G v d → Dp K H v d
  | _, _, .non => .non
  | _, _, .bl => .bl _
  | _, _, .int => .int _
  | _, _, .str => .str _
  | _, _, .lst h _ r => .lst (.inl (.inl (e _ _ h))) (RpL.dp e r)
  | _, _, .tup h _ r => .tup (.inl (.inl (e _ _ h))) (RpL.dp e r)
theorem RpL.dp {K : PySem.W.Frag} {G H : Hp} (e : Ex G H) : ∀ {vs : List V} {ds : List PyData}, RpL G vs ds → DpAll K H vs ds
  | _, _, .nil => .nil
  | _, _, .cons h r => .cons (Rp.dp e h) (RpL.dp e r)
end

/-! ## how the heaps grow where nothing is changed -/
structure Grow (G H G' H' : Hp) : Prop where
  g : Ex G G'
  s : Ex G' H'
  h : Ex H H'
  o : ∀ a, H a ≠ none → G' a = G a
theorem Grow.refl {G H : Hp} (e : Ex G H) : Grow G H G H := ⟨.refl G, e, .refl H, fun _ _ => rfl⟩
theorem Ex.some {H H' : Hp} (e : Ex H H') {a : Addr} (h : H a ≠ Option.none) : H' a ≠ Option.none := fun z => h (e.none z)
theorem Grow.trans {G H G1 H1 G2 H2 : Hp} (x : Grow G H G1 H1) (y : Grow G1 H1 G2 H2) : Grow G H G2 H2 :=
  ⟨x.g.trans y.g, y.s, x.h.trans y.h, fun a h => (y.o a (x.h.some h)).trans (x.o a h)⟩
/-- a new object that will stand still -/
theorem Grow.new {G H : Hp} (e : Ex G H) {p : Addr} {o : HO} (h : H p = none) : Grow G H (upd G p o) (upd H p o) := by
  refine ⟨.new (e.none h), fun a u q => ?_, .new h, fun a z => ?_⟩
  · by_cases k : a = p
    · subst k; rw [upd_same] at q ⊢; exact q
    · rw [upd_ne k] at q ⊢; exact e _ _ q
  · have : a ≠ p := fun k => z (k ▸ h)
    rw [upd_ne this]
/-- a new object that may change -/
theorem Grow.raw {G H : Hp} (e : Ex G H) {p : Addr} {o : HO} (h : H p = none) : Grow G H G (upd H p o) :=
  ⟨.refl G, e.trans (.new h), .new h, fun _ _ => rfl⟩

/-! ## kinds: what a name holds -/
structure Rs where
  at_ : Hp → Hp → V → (Addr → Prop) → Prop
  loc : ∀ {G H G' H' : Hp} {v : V} {P : Addr → Prop}, at_ G H v P → Ex G G' → (∀ a, P a → H' a = H a) → at_ G' H' v P
/-- what is known of an object that is only read -/
structure Ro where
  at_ : Hp → Hp → V → Prop
  mono : ∀ {G H G' H' : Hp} {v : V}, at_ G H v → Ex G G' → Ex H H' → at_ G' H' v
/-- an argument: a datum, a list that is read, the script, an object that is read -/
inductive Ar
  | dat (d : PyData)
  | lst (ds : List PyData)
  | scr (ns : List Int)
  | obj (r : Ro)
def ArAt (K : PySem.W.Frag) (G H : Hp) (v : V) : Ar → Prop
  | .dat d => Rp G v d
  | .lst ds => ∃ a vs, v = .ref a ∧ H a = some (.lst vs) ∧ ds.length ≤ cap ∧ RpL G vs ds
  | .scr ns => ∃ a, v = .ref a ∧ SqL K H a (ns.map V.int) ∧ ns.length ≤ 63
  | .obj r => r.at_ G H v
theorem ArAt.mono {K : PySem.W.Frag} {G H G' H' : Hp} {v : V} {a : Ar} (h : ArAt K G H v a) (g : Ex G G') (e : Ex H H') : ArAt K G' H' v a := by
  cases a with
  | dat d => exact Rp.mono g h
  | lst ds => obtain ⟨a, vs, h1, h2, h3, h4⟩ := h; exact ⟨a, vs, h1, e _ _ h2, h3, h4.mono g⟩
  | scr ns => obtain ⟨a, h1, h2, h3⟩ := h; exact ⟨a, h1, Same.seq e h2, h3⟩
  | obj r => exact r.mono h g e
inductive Kd
  | un
  | val (d : PyData)
  | own (v : V) (ds : List PyData)
  | arg (a : Ar)
  | raw (v : V)
  | res (v : V) (r : Rs)
def Ar.kd : Ar → Kd
  | .dat d => .val d
  | a => .arg a
/-- nothing that may be changed -/
def Kd.dry : Kd → Bool
  | .own _ _ => false
  | .res _ _ => false
  | _ => true
/-- where a def began: its heap (less what it may change), what stood still -/
structure Md where
  P : Program
  w : World
  K : PySem.W.Frag
  mg : Str → Option Value
  base : Heap
structure Fr where
  K : PySem.W.Frag
  B : Hp
  G0 : Hp
def KAt (F : Fr) (G H : Hp) : Kd → Option V → (Addr → Prop) → Prop
  | .un, _, P => ∀ a, ¬ P a
  | .val d, x, P => (∀ a, ¬ P a) ∧ ∃ v, x = some v ∧ Rp G v d
  | .own v ds, x, P => x = some v ∧ ∃ a vs, v = .ref a ∧ (∀ b, P b ↔ b = a) ∧ H a = some (.lst vs) ∧ ds.length ≤ cap ∧ RpL G vs ds
  | .arg r, x, P => (∀ a, ¬ P a) ∧ ∃ v, x = some v ∧ ArAt F.K G F.B v r
  | .raw v, x, P => (∀ a, ¬ P a) ∧ x = some v
  | .res v r, x, P => x = some v ∧ r.at_ G H v P
theorem KAt.mono {F : Fr} {G H G' H' : Hp} {k : Kd} {x : Option V} {P : Addr → Prop} (h : KAt F G H k x P) (g : Ex G G') (e : ∀ a, P a → H' a = H a) : KAt F G' H' k x P := by
  cases k with
  | un => exact h
  | val d => obtain ⟨h1, v, h2, h3⟩ := h; exact ⟨h1, v, h2, h3.mono g⟩
  | own v ds => obtain ⟨h1, a, vs, h2, h3, h4, h5, h6⟩ := h; exact ⟨h1, a, vs, h2, h3, (e a ((h3 a).mpr rfl)).trans h4, h5, h6.mono g⟩
  | arg r => obtain ⟨h0, v, h1, h2⟩ := h; exact ⟨h0, v, h1, h2.mono g (.refl _)⟩
  | raw v => exact h
  | res v r => exact ⟨h.1, r.loc h.2 g e⟩
theorem KAt.dry {F : Fr} {G H : Hp} {k : Kd} {x : Option V} {P : Addr → Prop} (h : KAt F G H k x P) (hd : k.dry = true) : ∀ a, ¬ P a := by
  cases k with
  | un => exact h
  | val d => exact h.1
  | own v ds => cases hd
  | arg r => exact h.1
  | raw v => exact h.1
  | res v r => cases hd

structure Env (F : Fr) (G H : Hp) (σ : L2.St) (Γ : List Kd) (Fs : Nat → Addr → Prop) : Prop where
  gh : Ex G H
  bh : Ex F.B H
  g0 : Ex F.G0 G
  go : ∀ a, F.B a ≠ none → G a = F.G0 a
  len : σ.length = Γ.length
  sl : ∀ i k, Γ[i]? = some k → KAt F G H k (σ[i]?.join) (Fs i)
  dis : ∀ i j a, Fs i a → Fs j a → i = j
  fp : ∀ i a, Fs i a → F.B a = none ∧ G a = none ∧ H a ≠ none ∧ i < Γ.length
theorem eq_of_ex {H H' : Hp} {a : Addr} (e : Ex H H') (h : H a ≠ none) : H' a = H a := by
  cases q : H a with
  | none => exact absurd q h
  | some o => exact e a o q
theorem Env.grow {F : Fr} {G H G' H' : Hp} {σ : L2.St} {Γ : List Kd} {Fs : Nat → Addr → Prop} (E : Env F G H σ Γ Fs) (w : Grow G H G' H') : Env F G' H' σ Γ Fs where
  gh := w.s
  bh := E.bh.trans w.h
  g0 := E.g0.trans w.g
  go := fun a h => (w.o a (E.bh.some h)).trans (E.go a h)
  len := E.len
  sl := fun i k h => (E.sl i k h).mono w.g fun a ha => eq_of_ex w.h (E.fp i a ha).2.2.1
  dis := E.dis
  fp := fun i a ha => ⟨(E.fp i a ha).1, (w.o a (E.fp i a ha).2.2.1).trans (E.fp i a ha).2.1, w.h.some (E.fp i a ha).2.2.1, (E.fp i a ha).2.2.2⟩

theorem join_some {σ : L2.St} {i : Nat} {v : V} (h : σ[i]?.join = some v) : σ[i]? = some (some v) := by
  cases q : σ[i]? with
  | none => rw [q] at h; cases h
  | some x => rw [q] at h; exact congrArg some h
theorem join_of {σ : L2.St} {i : Nat} {v : V} (h : σ[i]? = some (some v)) : σ[i]?.join = some v := by rw [h]; rfl

theorem getElem?_set_join {σ : L2.St} {i j : Nat} {x : Option V} (h : i < σ.length) : (σ.set i x)[j]?.join = if j = i then x else σ[j]?.join := by
  by_cases e : j = i
  · subst e; rw [if_pos rfl, List.getElem?_set_self h]; rfl
  · rw [if_neg e, List.getElem?_set_ne (Ne.symm e)]
/-- a name that held nothing changeable holds a new thing -/
theorem Env.put {F : Fr} {G H : Hp} {σ : L2.St} {Γ : List Kd} {Fs : Nat → Addr → Prop} (E : Env F G H σ Γ Fs) {i : Nat} {k k' : Kd} {v : Option V} {P : Addr → Prop} (hi : Γ[i]? = some k) (hd : k.dry = true) (hk : KAt F G H k' v P)
    (hp : ∀ a, P a → F.B a = none ∧ G a = none ∧ H a ≠ none ∧ ∀ j, ¬ Fs j a) : Env F G H (σ.set i v) (Γ.set i k') (fun j => if j = i then P else Fs j) := by
  have hi' : i < Γ.length := (List.getElem?_eq_some_iff.mp hi).1
  have nd := (E.sl i k hi).dry hd
  refine ⟨E.gh, E.bh, E.g0, E.go, by rw [List.length_set, List.length_set]; exact E.len, fun j q hj => ?_, fun j l a h1 h2 => ?_, fun j a h => ?_⟩
  · rw [getElem?_set_join (by rw [E.len]; exact hi')]
    by_cases e : j = i
    · subst e
      rw [List.getElem?_set_self hi'] at hj
      obtain rfl := Option.some.inj hj
      rw [if_pos rfl]
      simpa using hk
    · rw [List.getElem?_set_ne (Ne.symm e)] at hj
      rw [if_neg e]
      simpa [e] using E.sl j q hj
  · by_cases e1 : j = i <;> by_cases e2 : l = i
    · rw [e1, e2]
    · simp only [e1, if_true, e2, if_false] at h1 h2; exact absurd h2 ((hp a h1).2.2.2 l)
    · simp only [e1, if_false, e2, if_true] at h1 h2; exact absurd h1 ((hp a h2).2.2.2 j)
    · simp only [e1, if_false, e2] at h1 h2; exact E.dis j l a h1 h2
  · by_cases e1 : j = i
    · simp only [e1, if_true] at h
      rw [e1, List.length_set]
      exact ⟨(hp a h).1, (hp a h).2.1, (hp a h).2.2.1, hi'⟩
    · simp only [e1, if_false] at h
      rw [List.length_set]
      exact E.fp j a h
/-- .. a thing that nothing changes: the footprints stay -/
theorem Env.putD {F : Fr} {G H : Hp} {σ : L2.St} {Γ : List Kd} {Fs : Nat → Addr → Prop} (E : Env F G H σ Γ Fs) {i : Nat} {k k' : Kd} {v : Option V} (hi : Γ[i]? = some k) (hd : k.dry = true) (hk : KAt F G H k' v (fun _ => False)) : Env F G H (σ.set i v) (Γ.set i k') Fs := by
  have nd := (E.sl i k hi).dry hd
  have h := E.put hi hd hk (fun a z => z.elim)
  have e : (fun j => if j = i then (fun _ => False) else Fs j) = Fs := by
    funext j a
    by_cases e : j = i
    · subst e
      rw [if_pos rfl]
      exact (eq_false (nd a)).symm
    · rw [if_neg e]
  rw [e] at h
  exact h
/-- an object of no one's grows or changes -/
theorem Env.other {F : Fr} {G H : Hp} {σ : L2.St} {Γ : List Kd} {Fs : Nat → Addr → Prop} (E : Env F G H σ Γ Fs) {p : Addr} {o : HO} (hg : G p = none) (hb : F.B p = none) (hf : ∀ i, ¬ Fs i p) : Env F G (upd H p o) σ Γ Fs := by
  have ne : ∀ {H0 : Hp}, H0 p = none → Ex H0 H → Ex H0 (upd H p o) := fun {H0} h e a u q => by
    rw [upd_ne (ne_of_none q h)]; exact e a u q
  have ot : ∀ i a, Fs i a → upd H p o a = H a := fun i a ha => upd_ne fun z => hf i (z ▸ ha)
  exact ⟨ne hg E.gh, ne hb E.bh, E.g0, E.go, E.len, fun i k h => (E.sl i k h).mono (.refl G) fun a ha => ot i a ha, E.dis, fun i a ha => ⟨(E.fp i a ha).1, (E.fp i a ha).2.1, by rw [ot i a ha]; exact (E.fp i a ha).2.2.1, (E.fp i a ha).2.2.2⟩⟩
theorem kat_val {F : Fr} {G H : Hp} {v : V} {d : PyData} (h : Rp G v d) : KAt F G H (.val d) (some v) (fun _ => False) := ⟨fun _ z => z, v, rfl, h⟩
/-- an owned thing is changed -/
theorem Env.chg {F : Fr} {G H H' : Hp} {σ : L2.St} {Γ : List Kd} {Fs : Nat → Addr → Prop} (E : Env F G H σ Γ Fs) {i : Nat} {k k' : Kd} {P : Addr → Prop} (hi : Γ[i]? = some k) (hk : KAt F G H' k' (σ[i]?.join) P)
    (hh : ∀ a, ¬ Fs i a → ∀ o, H a = some o → H' a = some o) (hp : ∀ a, P a → H' a ≠ none ∧ (Fs i a ∨ H a = none)) : Env F G H' σ (Γ.set i k') (fun j => if j = i then P else Fs j) := by
  have hi' : i < Γ.length := (List.getElem?_eq_some_iff.mp hi).1
  have old : ∀ j a, j ≠ i → Fs j a → H' a = H a := fun j a hj ha => by
    have hn : ¬ Fs i a := fun z => hj (E.dis j i a ha z)
    cases q : H a with
    | none => exact absurd q (E.fp j a ha).2.2.1
    | some o => exact hh a hn o q
  refine ⟨fun a o q => hh a (fun z => ?_) o (E.gh a o q), fun a o q => hh a (fun z => ?_) o (E.bh a o q), E.g0, E.go, by rw [List.length_set]; exact E.len, fun j q hj => ?_, fun j l a h1 h2 => ?_, fun j a h => ?_⟩
  · rw [(E.fp i a z).2.1] at q; cases q
  · rw [(E.fp i a z).1] at q; cases q
  · by_cases e : j = i
    · subst e
      rw [List.getElem?_set_self hi'] at hj
      obtain rfl := Option.some.inj hj
      simpa using hk
    · rw [List.getElem?_set_ne (Ne.symm e)] at hj
      simp only [e, if_false]
      exact (E.sl j q hj).mono (.refl G) fun a ha => old j a e ha
  · have key : ∀ l a, l ≠ i → P a → Fs l a → False := fun l a hl p f => by
      rcases (hp a p).2 with z | z
      · exact hl (E.dis l i a f z)
      · exact (E.fp l a f).2.2.1 z
    by_cases e1 : j = i <;> by_cases e2 : l = i
    · rw [e1, e2]
    · simp only [e1, if_true, e2, if_false] at h1 h2; exact (key l a e2 h1 h2).elim
    · simp only [e1, if_false, e2, if_true] at h1 h2; exact (key j a e1 h2 h1).elim
    · simp only [e1, if_false, e2] at h1 h2; exact E.dis j l a h1 h2
  · rw [List.length_set]
    by_cases e1 : j = i
    · simp only [e1, if_true] at h
      rw [e1]
      rcases (hp a h).2 with z | z
      · exact ⟨(E.fp i a z).1, (E.fp i a z).2.1, (hp a h).1, hi'⟩
      · exact ⟨E.bh.none z, E.gh.none z, (hp a h).1, hi'⟩
    · simp only [e1, if_false] at h
      exact ⟨(E.fp j a h).1, (E.fp j a h).2.1, by rw [old j a e1 h]; exact (E.fp j a h).2.2.1, (E.fp j a h).2.2.2⟩

/-! ## the weakest readings -/
section
variable {X : Cx}
def wE (X : Cx) (e : Expr) : TE := fun σ H Q => ∃ t, PE X e t ∧ t σ H Q
def wT (X : Cx) (e : Expr) : TT := fun σ H Q => ∃ t, PT X e t ∧ t σ H Q
def wA (X : Cx) (es : List Expr) : TA := fun σ H Q => ∃ t, PA X es t ∧ t σ H Q
def wS (X : Cx) (st : Stmt) : TS := fun D σ H => ∃ t, PS X st t ∧ t D σ H
def wSs (X : Cx) (st : List Stmt) : TS := fun D σ H => ∃ t, PSs X st t ∧ t D σ H
theorem pe_w {e : Expr} : PE X e (wE X e) := ⟨fun pins s σ H Q I h => by obtain ⟨t, p, q⟩ := h; exact p.run pins s σ H Q I q⟩
theorem pt_w {e : Expr} : PT X e (wT X e) := ⟨fun pins s σ H Q I h => by obtain ⟨t, p, q⟩ := h; exact p.run pins s σ H Q I q⟩
theorem pa_w {es : List Expr} : PA X es (wA X es) := ⟨fun pos pins s σ H Q I h => by obtain ⟨t, p, q⟩ := h; exact p.run pos pins s σ H Q I q⟩
theorem ps_w {st : Stmt} : PS X st (wS X st) := ⟨fun pins s σ H D I h => by obtain ⟨t, p, q⟩ := h; exact p.run pins s σ H D I q⟩
theorem pss_w {st : List Stmt} : PSs X st (wSs X st) := ⟨fun pins s σ H D I h => by obtain ⟨t, p, q⟩ := h; exact p.run pins s σ H D I q⟩
/-- an operator, its rule chosen by what came -/
def wOp (X : Cx) (f : Value → Value → Sem Value) : R2 := fun x y H Q => ∃ r, OpR X f r ∧ r x y H Q
theorem op_w {f : Value → Value → Sem Value} : OpR X f (wOp X f) := fun pins s σ H x y u v Q I rx ry h => by
  obtain ⟨r, p, q⟩ := h; exact p pins s σ H x y u v Q I rx ry q
def wUn (X : Cx) (f : Value → Sem Value) : V → Hp → VK → Prop := fun x H Q => ∃ r, UnR X f r ∧ r x H Q
theorem un_w {f : Value → Sem Value} : UnR X f (wUn X f) := fun pins s σ H x u Q I rx h => by
  obtain ⟨r, p, q⟩ := h; exact p pins s σ H x u Q I rx q
def wIx (X : Cx) : R2 := fun x y H Q => ∃ r, IxR X r ∧ r x y H Q
theorem ix_w : IxR X (wIx X) := fun value slice pins s σ H x y u v Q I rx ry h hs => by
  obtain ⟨r, p, q⟩ := h; exact p value slice pins s σ H x y u v Q I rx ry q hs
def wCall (X : Cx) (f : Value) : List V → Hp → VK → Prop := fun xs H Q => ∃ r, CallR X f r ∧ r xs H Q
theorem call_w {f : Value} : CallR X f (wCall X f) := fun pins s σ H xs us Q I rx h => by
  obtain ⟨r, p, q⟩ := h; exact p pins s σ H xs us Q I rx q
end
end Rn

namespace Rn
open PySem PySem.Spec PyProof.Rows L2

/-! ## what holds of the place where one stands -/
instance {sc : Scope} {x : Str} : Decidable (Vis sc x) := inferInstanceAs (Decidable (_ ∨ _ ∨ _))
instance {sc : Scope} {x : Str} : Decidable (Loc sc x) := inferInstanceAs (Decidable (_ ∨ _))
structure Cok (X : Cx) (M : Md) (F : Fr) (N : List Str) (sc : Scope) (k : Nat) : Prop where
  hP : X.prog = M.P
  hw : X.w = M.w
  hK : X.K = M.K
  hF : F.K = M.K
  hM : X.mg = M.mg
  hb : X.base = M.base
  hN : X.N = N
  hs : X.env.scope = sc
  nd : N.Nodup
  calm : X.calm = true
  room : Room k X.A
inductive Sel : List Str → List Kd → Str → Nat → Kd → Prop
  | here {x : Str} {N : List Str} {k : Kd} {Γ : List Kd} : Sel (x :: N) (k :: Γ) x 0 k
  | there {x y : Str} {N : List Str} {k k' : Kd} {Γ : List Kd} {i : Nat} : Sel N Γ x i k → Sel (y :: N) (k' :: Γ) x (i + 1) k
theorem Sel.n {N : List Str} {Γ : List Kd} {x : Str} {i : Nat} {k : Kd} (h : Sel N Γ x i k) : N[i]? = some x := by
  induction h with
  | here => rfl
  | there _ ih => simpa using ih
theorem Sel.k {N : List Str} {Γ : List Kd} {x : Str} {i : Nat} {k : Kd} (h : Sel N Γ x i k) : Γ[i]? = some k := by
  induction h with
  | here => rfl
  | there _ ih => simpa using ih

inductive Kx : List Kd → Nat → Kd → Prop
  | here {k : Kd} {Γ : List Kd} : Kx (k :: Γ) 0 k
  | there {k k' : Kd} {Γ : List Kd} {i : Nat} : Kx Γ i k → Kx (k' :: Γ) (i + 1) k
theorem Kx.kd {Γ : List Kd} {i : Nat} {k : Kd} (h : Kx Γ i k) : Γ[i]? = some k := by
  induction h with
  | here => rfl
  | there _ ih => simpa using ih
/-! ## a pure expression: its datum -/
/-- the datum d -/
def EP (X : Cx) (F : Fr) (Γ : List Kd) (e : Expr) (d : PyData) : Prop := ∀ σ G H Fs, Env F G H σ Γ Fs → ∀ Q : VK, (∀ v G' H', Grow G H G' H' → Rp G' v d → Q v H') → wE X e σ H Q
/-- some list (that may still be changed, not now) whose items are ds -/
def LP (X : Cx) (F : Fr) (Γ : List Kd) (e : Expr) (ds : List PyData) : Prop := ∀ σ G H Fs, Env F G H σ Γ Fs → ∀ Q : VK, (∀ a vs G' H', Grow G H G' H' → H' a = some (.lst vs) → ds.length ≤ cap → RpL G' vs ds → Q (.ref a) H') → wE X e σ H Q
/-- a new list whose items are ds -/
def NP (X : Cx) (F : Fr) (Γ : List Kd) (e : Expr) (ds : List PyData) : Prop := ∀ σ G H Fs, Env F G H σ Γ Fs → ∀ Q : VK, (∀ a vs G' H', Grow G H G' H' → H a = none → G' a = none → H' a = some (.lst vs) → ds.length ≤ cap → RpL G' vs ds → Q (.ref a) H') → wE X e σ H Q
/-- arguments -/
def AP_ (X : Cx) (F : Fr) (Γ : List Kd) (es : List Expr) (ds : List PyData) : Prop := ∀ σ G H Fs, Env F G H σ Γ Fs → ∀ Q : List V → Hp → Prop, (∀ vs G' H', Grow G H G' H' → RpL G' vs ds → Q vs H') → wA X es σ H Q
def TP_ (X : Cx) (F : Fr) (Γ : List Kd) (c : Expr) (b : Bool) : Prop := ∀ σ G H Fs, Env F G H σ Γ Fs → ∀ Q : Bool → Hp → Prop, (∀ G' H', Grow G H G' H' → Q b H') → wT X c σ H Q

section
variable {X : Cx} {M : Md} {F : Fr} {N : List Str} {sc : Scope} {kk : Nat} {Γ : List Kd} {e a b c : Expr} {es : List Expr} {d da db : PyData} {ds : List PyData} {pos : Pos} {x : Str} {i : Nat} {k : Kd}

/-- freezing -/
theorem Grow.freeze {G H G' H' : Hp} (w : Grow G H G' H') {p : Addr} {o : HO} (hn : H p = none) (hg : G' p = none) (hp : H' p = some o) : Grow G H (upd G' p o) H' := by
  refine ⟨w.g.trans (.new hg), fun a u q => ?_, w.h, fun a z => ?_⟩
  · by_cases k : a = p
    · subst k; rw [upd_same] at q; rw [hp]; exact q
    · rw [upd_ne k] at q; exact w.s _ _ q
  · have : a ≠ p := fun k => z (k ▸ hn)
    rw [upd_ne this]; exact w.o a z
theorem NP.ep (h : NP X F Γ e ds) : EP X F Γ e (.list ds) := fun σ G H Fs E Q q => h σ G H Fs E Q fun a vs G' H' w hn hg hp hl r =>
  q _ _ _ (w.freeze hn hg hp) (.lst upd_same hl (r.mono (.new hg)))
theorem NP.lp (h : NP X F Γ e ds) : LP X F Γ e ds := fun σ G H Fs E Q q => h σ G H Fs E Q fun a vs G' H' w _ _ hp hl r => q a vs G' H' w hp hl r
theorem EP.lp (h : EP X F Γ e (.list ds)) : LP X F Γ e ds := fun σ G H Fs E Q q => h σ G H Fs E Q fun v G' H' w r => by
  obtain ⟨a, vs, rfl, h1, h2, h3⟩ := r.lst_inv
  exact q a vs G' H' w (w.s _ _ h1) h2 h3
theorem EP.eq {d' : PyData} (h : EP X F Γ e d) (e' : d = d') : EP X F Γ e d' := e' ▸ h
theorem LP.eq {ds' : List PyData} (h : LP X F Γ e ds) (e' : ds = ds') : LP X F Γ e ds' := e' ▸ h
theorem TP_.eq {t t' : Bool} (h : TP_ X F Γ e t) (e' : t = t') : TP_ X F Γ e t' := e' ▸ h

/-! ### constants and names -/
theorem ep_int {j : Int} {u : Nat} : EP X F Γ (.Constant (.int j) u pos) (.int j) := fun σ G H Fs E Q q => ⟨_, pe_int, q _ _ _ (.refl E.gh) .int⟩
theorem ep_bool {t : Bool} {u : Nat} : EP X F Γ (.Constant (.bool t) u pos) (.bool t) := fun σ G H Fs E Q q => ⟨_, pe_bl, q _ _ _ (.refl E.gh) .bl⟩
theorem ep_none {u : Nat} : EP X F Γ (.Constant .none u pos) .none := fun σ G H Fs E Q q => ⟨_, pe_non, q _ _ _ (.refl E.gh) .non⟩
theorem ep_str {s : Str} {u : Nat} : EP X F Γ (.Constant (.str s) u pos) (.str s) := fun σ G H Fs E Q q => ⟨_, pe_str, q _ _ _ (.refl E.gh) .str⟩
theorem w_name (C : Cok X M F N sc kk) (h : Sel N Γ x i k) (hv : Vis sc x) {σ : L2.St} {H : Hp} {v : V} (hs : σ[i]?.join = some v) {Q : VK} (q : Q v H)
    (hd : (x == ("__debug__" : Str)) = false := by decide) (hcd : (x == ("__classdict__" : Str)) = false := by decide) : wE X (.Name x pos) σ H Q :=
  ⟨_, pe_var (i := i) (by rw [C.hN]; exact h.n) (by rw [C.hs]; exact hv) hd hcd, v, join_some hs, q⟩
theorem ep_name (C : Cok X M F N sc kk) (h : Sel N Γ x i (.val d)) (hv : Vis sc x) (hd : (x == ("__debug__" : Str)) = false := by decide) (hcd : (x == ("__classdict__" : Str)) = false := by decide) : EP X F Γ (.Name x pos) d := fun σ G H Fs E Q q => by
  obtain ⟨_, v, h1, h2⟩ := E.sl i _ h.k
  exact w_name C h hv h1 (q v G H (.refl E.gh) h2) hd hcd
theorem lp_own {v : V} (C : Cok X M F N sc kk) (h : Sel N Γ x i (.own v ds)) (hv : Vis sc x) (hd : (x == ("__debug__" : Str)) = false := by decide) (hcd : (x == ("__classdict__" : Str)) = false := by decide) : LP X F Γ (.Name x pos) ds := fun σ G H Fs E Q q => by
  obtain ⟨h1, a, vs, rfl, _, h3, h4, h5⟩ := E.sl i _ h.k
  exact w_name C h hv h1 (q a vs G H (.refl E.gh) h3 h4 h5) hd hcd
theorem lp_arg (C : Cok X M F N sc kk) (h : Sel N Γ x i (.arg (.lst ds))) (hv : Vis sc x) (hd : (x == ("__debug__" : Str)) = false := by decide) (hcd : (x == ("__classdict__" : Str)) = false := by decide) : LP X F Γ (.Name x pos) ds := fun σ G H Fs E Q q => by
  obtain ⟨_, v, h1, a, vs, rfl, h3, h4, h5⟩ := E.sl i _ h.k
  exact w_name C h hv h1 (q a vs G H (.refl E.gh) (E.bh _ _ h3) h4 h5) hd hcd

/-! ### operators -/
/-- an operator on data -/
def DOp (X : Cx) (f : Value → Value → Sem Value) (da db d : PyData) : Prop := ∀ G H x y, Ex G H → Rp G x da → Rp G y db → ∀ Q : VK, (∀ v G' H', Grow G H G' H' → Rp G' v d → Q v H') → wOp X f x y H Q
theorem ep_bin {op : Operator} (ha : EP X F Γ a da) (hb : EP X F Γ b db) (ho : DOp X (binaryOp op) da db d) : EP X F Γ (.BinOp a op b pos) d := fun σ G H Fs E Q q => by
  refine ⟨_, pe_op op_w pe_w pe_w, ?_⟩
  refine ha σ G H Fs E _ fun x G1 H1 w1 r1 => hb σ G1 H1 Fs (E.grow w1) _ fun y G2 H2 w2 r2 => ?_
  exact ho G2 H2 x y w2.s (r1.mono w2.g) r2 Q fun v G3 H3 w3 r3 => q v G3 H3 ((w1.trans w2).trans w3) r3
theorem ep_cmp {op : CmpOp} (ha : EP X F Γ a da) (hb : EP X F Γ b db) (ho : DOp X (compareOp op) da db d) (hm : behindInMarks op b = false := by first | rfl | exact nomark _) : EP X F Γ (.Compare a [op] [b] pos) d := fun σ G H Fs E Q q => by
  refine ⟨_, pe_cmpR op_w pe_w pe_w hm, ?_⟩
  refine ha σ G H Fs E _ fun x G1 H1 w1 r1 => hb σ G1 H1 Fs (E.grow w1) _ fun y G2 H2 w2 r2 => ?_
  exact ho G2 H2 x y w2.s (r1.mono w2.g) r2 Q fun v G3 H3 w3 r3 => q v G3 H3 ((w1.trans w2).trans w3) r3
theorem dop_i0 {f : Value → Value → Sem Value} {g : Int → Int → V} {g' : Int → Int → PyData} (h : OpR X f (rI0 g)) (hg : ∀ G i j, Rp G (g i j) (g' i j)) {m n : Int} : DOp X f (.int m) (.int n) (g' m n) := fun G H x y s rx ry Q q => by
  obtain rfl := rx.int_inv
  obtain rfl := ry.int_inv
  exact ⟨_, h, m, n, rfl, rfl, q _ _ _ (.refl s) (hg _ _ _)⟩
theorem dop_i {f : Value → Value → Sem Value} {P : Int → Int → Prop} {g : Int → Int → V} {g' : Int → Int → PyData} (h : OpR X f (rI P g)) (hg : ∀ G i j, Rp G (g i j) (g' i j)) {m n : Int} (hp : P m n) : DOp X f (.int m) (.int n) (g' m n) := fun G H x y s rx ry Q q => by
  obtain rfl := rx.int_inv
  obtain rfl := ry.int_inv
  exact ⟨_, h, m, n, rfl, rfl, hp, q _ _ _ (.refl s) (hg _ _ _)⟩
theorem do_add {m n : Int} : DOp X (binaryOp .Add) (.int m) (.int n) (.int (m + n)) := dop_i0 (g' := fun i j => .int (i + j)) op_add fun _ _ _ => .int
theorem do_sub {m n : Int} : DOp X (binaryOp .Sub) (.int m) (.int n) (.int (m - n)) := dop_i0 (g' := fun i j => .int (i - j)) op_sub fun _ _ _ => .int
theorem do_mul {m n : Int} (h : CMul m n) : DOp X (binaryOp .Mult) (.int m) (.int n) (.int (m * n)) := dop_i (g' := fun i j => .int (i * j)) op_mul (fun _ _ _ => .int) h
theorem do_mod {m n : Int} (h : 0 < n) : DOp X (binaryOp .Mod) (.int m) (.int n) (.int (m % n)) := dop_i (P := fun _ j => 0 < j) (g' := fun i j => .int (i % j)) op_mod (fun _ _ _ => .int) h
theorem do_div {m n : Int} (h : CDiv m n) : DOp X (binaryOp .FloorDiv) (.int m) (.int n) (.int (m / n)) := dop_i (g' := fun i j => .int (i / j)) op_fdiv (fun _ _ _ => .int) h
theorem do_pow {m n : Int} (h : CPow m n) : DOp X (binaryOp .Pow) (.int m) (.int n) (.int (m ^ n.toNat)) := dop_i (g' := fun i j => .int (i ^ j.toNat)) op_pow (fun _ _ _ => .int) h
theorem do_xor {m n : Int} : DOp X (binaryOp .BitXor) (.int m) (.int n) (.int (Builtin.bitXor m n)) := dop_i0 (g' := fun i j => .int (Builtin.bitXor i j)) op_xor fun _ _ _ => .int
theorem do_lt {m n : Int} : DOp X (compareOp .Lt) (.int m) (.int n) (.bool (decide (m < n))) := dop_i0 (g' := fun i j => .bool (decide (i < j))) op_lt fun _ _ _ => .bl
theorem do_le {m n : Int} : DOp X (compareOp .LtE) (.int m) (.int n) (.bool (decide (m ≤ n))) := dop_i0 (g' := fun i j => .bool (decide (i ≤ j))) op_le fun _ _ _ => .bl
theorem do_gt {m n : Int} : DOp X (compareOp .Gt) (.int m) (.int n) (.bool (decide (n < m))) := dop_i0 (g' := fun i j => .bool (decide (j < i))) op_gt fun _ _ _ => .bl
theorem do_ge {m n : Int} : DOp X (compareOp .GtE) (.int m) (.int n) (.bool (decide (n ≤ m))) := dop_i0 (g' := fun i j => .bool (decide (j ≤ i))) op_ge fun _ _ _ => .bl
theorem do_eqI {m n : Int} : DOp X (compareOp .Eq) (.int m) (.int n) (.bool (decide (m = n))) := fun G H x y s rx ry Q q => by
  obtain rfl := rx.int_inv
  obtain rfl := ry.int_inv
  refine ⟨_, op_eq, rfl, ?_⟩
  rw [show decide (V.int m = V.int n) = decide (m = n) from by simp]
  exact q _ _ _ (.refl s) .bl
theorem do_neI {m n : Int} : DOp X (compareOp .NotEq) (.int m) (.int n) (.bool (!decide (m = n))) := fun G H x y s rx ry Q q => by
  obtain rfl := rx.int_inv
  obtain rfl := ry.int_inv
  refine ⟨_, op_ne, rfl, ?_⟩
  rw [show decide (V.int m = V.int n) = decide (m = n) from by simp]
  exact q _ _ _ (.refl s) .bl
theorem do_eqB {m n : Bool} : DOp X (compareOp .Eq) (.bool m) (.bool n) (.bool (decide (m = n))) := fun G H x y s rx ry Q q => by
  obtain rfl := rx.bl_inv
  obtain rfl := ry.bl_inv
  refine ⟨_, op_eq, rfl, ?_⟩
  rw [show decide (V.bl m = V.bl n) = decide (m = n) from by simp]
  exact q _ _ _ (.refl s) .bl
theorem do_neB {m n : Bool} : DOp X (compareOp .NotEq) (.bool m) (.bool n) (.bool (!decide (m = n))) := fun G H x y s rx ry Q q => by
  obtain rfl := rx.bl_inv
  obtain rfl := ry.bl_inv
  refine ⟨_, op_ne, rfl, ?_⟩
  rw [show decide (V.bl m = V.bl n) = decide (m = n) from by simp]
  exact q _ _ _ (.refl s) .bl
theorem do_eqS {m n : Str} : DOp X (compareOp .Eq) (.str m) (.str n) (.bool (decide (m = n))) := fun G H x y s rx ry Q q => by
  obtain rfl := rx.str_inv
  obtain rfl := ry.str_inv
  refine ⟨_, op_eq, rfl, ?_⟩
  rw [show decide (V.str m = V.str n) = decide (m = n) from by simp]
  exact q _ _ _ (.refl s) .bl
theorem do_neS {m n : Str} : DOp X (compareOp .NotEq) (.str m) (.str n) (.bool (!decide (m = n))) := fun G H x y s rx ry Q q => by
  obtain rfl := rx.str_inv
  obtain rfl := ry.str_inv
  refine ⟨_, op_ne, rfl, ?_⟩
  rw [show decide (V.str m = V.str n) = decide (m = n) from by simp]
  exact q _ _ _ (.refl s) .bl
/-- deep ==, != -/
theorem do_eqD (hu : X.A.units + 64 < cLine) (h1 : SeqAt.shaped da = true) (h2 : SeqAt.shaped db = true) : DOp X (compareOp .Eq) da db (.bool (PyData.eqv da db)) := fun G H x y s rx ry Q q =>
  ⟨_, op_eqD hu, da, db, rx.dp s, ry.dp s, h1, h2, q _ _ _ (.refl s) .bl⟩
theorem do_neD (hu : X.A.units + 64 < cLine) (h1 : SeqAt.shaped da = true) (h2 : SeqAt.shaped db = true) : DOp X (compareOp .NotEq) da db (.bool (!PyData.eqv da db)) := fun G H x y s rx ry Q q =>
  ⟨_, op_neD hu, da, db, rx.dp s, ry.dp s, h1, h2, q _ _ _ (.refl s) .bl⟩
theorem do_isN : DOp X (compareOp .Is) da .none (.bool (match da with | .none => true | _ => false)) := fun G H x y s rx ry Q q => by
  obtain rfl := ry.non_inv
  refine ⟨_, op_isN, rfl, ?_⟩
  cases rx <;> exact q _ _ _ (.refl s) .bl
theorem do_notN : DOp X (compareOp .IsNot) da .none (.bool (match da with | .none => false | _ => true)) := fun G H x y s rx ry Q q => by
  obtain rfl := ry.non_inv
  refine ⟨_, op_notN, rfl, ?_⟩
  cases rx <;> exact q _ _ _ (.refl s) .bl
theorem ep_neg {j : Int} (ha : EP X F Γ a (.int j)) : EP X F Γ (.UnaryOp .USub a pos) (.int (-j)) := fun σ G H Fs E Q q => by
  refine ⟨_, pe_un un_neg pe_w, ?_⟩
  refine ha σ G H Fs E _ fun x G1 H1 w1 r1 => ?_
  obtain rfl := r1.int_inv
  exact ⟨j, rfl, q _ _ _ w1 .int⟩

/-! ### tests -/
theorem tp_val {t : Bool} (h : EP X F Γ e (.bool t)) (he : ∀ whole, isTrue e X.env whole = (do let v ← whole; standAt e.pos; holding [v] (truthy v)) := by intro _; rfl) : TP_ X F Γ e t := fun σ G H Fs E Q q => by
  refine ⟨_, pt_val pe_w he, ?_⟩
  refine h σ G H Fs E _ fun x G1 H1 w1 r1 => ?_
  obtain rfl := r1.bl_inv
  exact ⟨t, rfl, q _ _ w1⟩
theorem tp_cmp {op : CmpOp} {t : Bool} (ha : EP X F Γ a da) (hb : EP X F Γ b db) (ho : DOp X (compareOp op) da db (.bool t)) (hm : behindInMarks op b = false := by first | rfl | exact nomark _) : TP_ X F Γ (.Compare a [op] [b] pos) t := fun σ G H Fs E Q q => by
  refine ⟨_, pt_cmpR op_w pe_w pe_w hm, ?_⟩
  refine ha σ G H Fs E _ fun x G1 H1 w1 r1 => hb σ G1 H1 Fs (E.grow w1) _ fun y G2 H2 w2 r2 => ?_
  refine ho G2 H2 x y w2.s (r1.mono w2.g) r2 _ fun v G3 H3 w3 r3 => ?_
  obtain rfl := r3.bl_inv
  exact ⟨t, rfl, q _ _ ((w1.trans w2).trans w3)⟩
theorem tp_not {t : Bool} (h : TP_ X F Γ a t) : TP_ X F Γ (.UnaryOp .Not a pos) (!t) := fun σ G H Fs E Q q =>
  ⟨_, pt_not pt_w, h σ G H Fs E _ fun G1 H1 w1 => q _ _ w1⟩
def WT (X : Cx) (F : Fr) (Γ : List Kd) (c : Expr) (b : Bool) : Prop := ∀ σ G H Fs, Env F G H σ Γ Fs → ∀ Q : Bool → Hp → Prop, (∀ G' H', Grow G H G' H' → Q b H') → ∃ t, PW X c t ∧ t σ H Q
def wW (X : Cx) (c : Expr) : TT := fun σ H Q => ∃ t, PW X c t ∧ t σ H Q
theorem pw_w : PW X e (wW X e) := ⟨fun whole pins s σ H Q I h => by obtain ⟨t, p, q⟩ := h; exact p.run whole pins s σ H Q I q⟩
theorem WT.tp {t : Bool} (h : WT X F Γ e t) : TP_ X F Γ e t := fun σ G H Fs E Q q => ⟨_, pw_w.pt, h σ G H Fs E Q q⟩
theorem wt_and1 {t : Bool} (h : TP_ X F Γ a t) : WT X F Γ (.BoolOp .And [a] pos) t := fun σ G H Fs E Q q => ⟨_, pw_and1 pt_w, h σ G H Fs E Q q⟩
theorem wt_or1 {t : Bool} (h : TP_ X F Γ a t) : WT X F Γ (.BoolOp .Or [a] pos) t := fun σ G H Fs E Q q => ⟨_, pw_or1 pt_w, h σ G H Fs E Q q⟩
theorem wt_and {t u : Bool} (h : TP_ X F Γ a t) (h2 : t = true → WT X F Γ (.BoolOp .And (b :: es) pos) u) : WT X F Γ (.BoolOp .And (a :: b :: es) pos) (t && u) := fun σ G H Fs E Q q => by
  refine ⟨_, pw_and pt_w pw_w, h σ G H Fs E _ fun G1 H1 w1 => ?_⟩
  cases t with
  | true => exact iteT (h2 rfl σ G1 H1 Fs (E.grow w1) Q fun G2 H2 w2 => q _ _ (w1.trans w2))
  | false => exact iteF (q _ _ w1)
theorem wt_or {t u : Bool} (h : TP_ X F Γ a t) (h2 : t = false → WT X F Γ (.BoolOp .Or (b :: es) pos) u) : WT X F Γ (.BoolOp .Or (a :: b :: es) pos) (t || u) := fun σ G H Fs E Q q => by
  refine ⟨_, pw_or pt_w pw_w, h σ G H Fs E _ fun G1 H1 w1 => ?_⟩
  cases t with
  | true => exact iteT (q _ _ w1)
  | false => exact iteF (h2 rfl σ G1 H1 Fs (E.grow w1) Q fun G2 H2 w2 => q _ _ (w1.trans w2))
/-! ### and, or, not, if as values -/
theorem ep_one {op : BoolOp} (h : EP X F Γ a d) : EP X F Γ (.BoolOp op [a] pos) d := fun σ G H Fs E Q q => ⟨_, pe_one pe_w, h σ G H Fs E Q q⟩
theorem ep_and {t u : Bool} (h : EP X F Γ a (.bool t)) (h2 : t = true → EP X F Γ (.BoolOp .And (b :: es) pos) (.bool u)) : EP X F Γ (.BoolOp .And (a :: b :: es) pos) (.bool (t && u)) := fun σ G H Fs E Q q => by
  refine ⟨_, pe_and pe_w pe_w, h σ G H Fs E _ fun x G1 H1 w1 r1 => ?_⟩
  obtain rfl := r1.bl_inv
  refine ⟨t, rfl, ?_⟩
  cases t with
  | true => exact iteT (h2 rfl σ G1 H1 Fs (E.grow w1) Q fun v G2 H2 w2 r2 => q _ _ _ (w1.trans w2) r2)
  | false => exact iteF (q _ _ _ w1 .bl)
theorem ep_or {t u : Bool} (h : EP X F Γ a (.bool t)) (h2 : t = false → EP X F Γ (.BoolOp .Or (b :: es) pos) (.bool u)) : EP X F Γ (.BoolOp .Or (a :: b :: es) pos) (.bool (t || u)) := fun σ G H Fs E Q q => by
  refine ⟨_, pe_or pe_w pe_w, h σ G H Fs E _ fun x G1 H1 w1 r1 => ?_⟩
  obtain rfl := r1.bl_inv
  refine ⟨t, rfl, ?_⟩
  cases t with
  | true => exact iteT (q _ _ _ w1 .bl)
  | false => exact iteF (h2 rfl σ G1 H1 Fs (E.grow w1) Q fun v G2 H2 w2 r2 => q _ _ _ (w1.trans w2) r2)
theorem ep_not {t : Bool} (h : EP X F Γ a (.bool t)) : EP X F Γ (.UnaryOp .Not a pos) (.bool (!t)) := fun σ G H Fs E Q q => by
  refine ⟨_, pe_not pe_w, h σ G H Fs E _ fun x G1 H1 w1 r1 => ?_⟩
  obtain rfl := r1.bl_inv
  exact ⟨t, rfl, q _ _ _ w1 .bl⟩
theorem ep_ife {t : Bool} (h : TP_ X F Γ c t) (h1 : t = true → EP X F Γ a da) (h2 : t = false → EP X F Γ b db) : EP X F Γ (.IfExp c a b pos) (if t then da else db) := fun σ G H Fs E Q q => by
  refine ⟨_, pe_ifExp pt_w pe_w pe_w, h σ G H Fs E _ fun G1 H1 w1 => ?_⟩
  cases t with
  | true => exact iteT (h1 rfl σ G1 H1 Fs (E.grow w1) Q fun v G2 H2 w2 r2 => q _ _ _ (w1.trans w2) r2)
  | false => exact iteF (h2 rfl σ G1 H1 Fs (E.grow w1) Q fun v G2 H2 w2 r2 => q _ _ _ (w1.trans w2) r2)

/-! ### arguments, displays -/
def plainE : Expr → Bool
  | .Starred .. => false
  | _ => true
theorem star_plain {e : Expr} (h : plainE e = true) (es : List Expr) (env : PySem.Env) : starEach (e :: es) env = (false, eval e env) :: starEach es env := by
  cases e <;> first | rfl | cases h
theorem back_plain {pos : Pos} {env : PySem.Env} : ∀ {es : List Expr}, es.all plainE = true → (backTo pos (starEach es env)).any (·.1) = false
  | [], _ => rfl
  | e :: es, h => by
    rw [List.all_cons, Bool.and_eq_true] at h
    rw [star_plain h.1]
    have ih := back_plain (pos := pos) (env := env) h.2
    unfold backTo at ih ⊢
    simpa using ih
theorem ap_nil : AP_ X F Γ [] [] := fun σ G H Fs E Q q => ⟨_, pa_nil, q _ _ _ (.refl E.gh) .nil⟩
theorem ap_cons (h : EP X F Γ e d) (hr : AP_ X F Γ es ds) (hs : plainE e = true := by rfl) : AP_ X F Γ (e :: es) (d :: ds) := fun σ G H Fs E Q q => by
  refine ⟨_, pa_cons pe_w pa_w (star_plain hs _ _), h σ G H Fs E _ fun x G1 H1 w1 r1 => hr σ G1 H1 Fs (E.grow w1) _ fun vs G2 H2 w2 r2 => q _ _ _ (w1.trans w2) (.cons (r1.mono w2.g) r2)⟩
theorem np_lst (h : AP_ X F Γ es ds) (hl : ds.length ≤ cap := by simp [cap]) : NP X F Γ (.List es pos) ds := fun σ G H Fs E Q q => by
  refine ⟨_, pe_lst pa_w, h σ G H Fs E _ fun vs G1 H1 w1 r1 => ⟨by rw [r1.len]; exact cap_le hl, fun p hp => ?_⟩⟩
  exact q p vs G1 (upd H1 p (.lst vs)) (w1.trans (.raw w1.s hp)) (w1.h.none hp) (w1.s.none hp) upd_same hl r1
theorem ep_tup (h : AP_ X F Γ es ds) (hl : ds.length ≤ cap := by simp [cap]) {u : Nat} : EP X F Γ (.Tuple es u pos) (.tuple ds) := fun σ G H Fs E Q q => by
  refine ⟨_, pe_tup pa_w, h σ G H Fs E _ fun vs G1 H1 w1 r1 => ⟨by rw [r1.len]; exact cap_le hl, fun p hp => ?_⟩⟩
  exact q _ _ _ (w1.trans (.new w1.s hp)) (.tup upd_same hl (r1.mono (.new (w1.s.none hp))))
end
end Rn

namespace Rn
open PySem PySem.Spec PyProof.Rows L2

section
variable {X : Cx} {M : Md} {F : Fr} {N : List Str} {sc : Scope} {kk : Nat} {Γ : List Kd} {e a b c : Expr} {es : List Expr} {d da db : PyData} {ds : List PyData} {pos : Pos} {x : Str} {i : Nat} {k : Kd}

/-! ### items, slices -/
theorem RpL.at_ {G : Hp} {vs : List V} {ds : List PyData} {j : Int} {d : PyData} (r : RpL G vs ds) (h : atI ds j = some d) : ∃ v, atI vs j = some v ∧ Rp G v d := by
  unfold atI at h ⊢
  rw [r.len]
  cases q : ixN ds.length j with
  | none => rw [q] at h; cases h
  | some n =>
    rw [q] at h
    obtain ⟨v, h1, h2⟩ := r.get (i := n) h
    exact ⟨v, h1, h2⟩
theorem ep_ixL {j : Int} (ha : LP X F Γ a ds) (hb : EP X F Γ b (.int j)) (hj : atI ds j = some d) (hs : PlainIx b := by exact fun _ _ => rfl) : EP X F Γ (.Subscript a b pos) d := fun σ G H Fs E Q q => by
  refine ⟨_, pe_ix ix_w pe_w pe_w hs, ?_⟩
  refine ha σ G H Fs E _ fun p vs G1 H1 w1 h1 hl r1 => hb σ G1 H1 Fs (E.grow w1) _ fun y G2 H2 w2 r2 => ?_
  obtain rfl := r2.int_inv
  obtain ⟨v, hv, rv⟩ := (r1.mono w2.g).at_ hj
  exact ⟨_, ix_list, p, vs, j, v, rfl, rfl, .inl (.inl (w2.h _ _ h1)), hv, q v G2 H2 (w1.trans w2) rv⟩
theorem ep_ixT {j : Int} (ha : EP X F Γ a (.tuple ds)) (hb : EP X F Γ b (.int j)) (hj : atI ds j = some d) (hs : PlainIx b := by exact fun _ _ => rfl) : EP X F Γ (.Subscript a b pos) d := fun σ G H Fs E Q q => by
  refine ⟨_, pe_ix ix_w pe_w pe_w hs, ?_⟩
  refine ha σ G H Fs E _ fun x G1 H1 w1 r1 => hb σ G1 H1 Fs (E.grow w1) _ fun y G2 H2 w2 r2 => ?_
  obtain rfl := r2.int_inv
  obtain ⟨p, vs, rfl, h1, hl, r1⟩ := r1.tup_inv
  obtain ⟨v, hv, rv⟩ := (r1.mono w2.g).at_ hj
  exact ⟨_, ix_tup, p, vs, j, v, rfl, rfl, .inl (.inl (w2.s _ _ (w2.g _ _ h1))), hv, q v G2 H2 (w1.trans w2) rv⟩
theorem atI_map {α : Type} [Inhabited α] {f : α → PyData} {xs : List α} {j : Int} (h0 : 0 ≤ j) (h1 : j < xs.length) : atI (xs.map f) j = some (f (xs.getD j.toNat default)) := by
  have hj : j.toNat < xs.length := by omega
  unfold atI ixN
  rw [if_pos h0, List.length_map, if_pos h1]
  show (xs.map f)[j.toNat]? = _
  rw [List.getElem?_map, List.getElem?_eq_getElem hj, List.getD_eq_getElem?_getD, List.getElem?_eq_getElem hj]
  rfl
theorem atI_neg {α : Type} {xs : List α} {j : Int} {d : α} (h0 : j < 0) (h1 : -(xs.length : Int) ≤ j) (h : xs[(j + xs.length).toNat]? = some d) : atI xs j = some d := by
  unfold atI ixN
  rw [if_neg (by omega), if_pos h1]
  exact h
/-- an item of a list of one kind -/
theorem ep_ixM {α : Type} [Inhabited α] {f : α → PyData} {xs : List α} {j : Int} (ha : LP X F Γ a (xs.map f)) (hb : EP X F Γ b (.int j)) (h0 : 0 ≤ j) (h1 : j < xs.length) (hs : PlainIx b := by exact fun _ _ => rfl) :
    EP X F Γ (.Subscript a b pos) (f (xs.getD j.toNat default)) := ep_ixL ha hb (atI_map h0 h1) hs
theorem ep_ixMT {α : Type} [Inhabited α] {f : α → PyData} {xs : List α} {j : Int} (ha : EP X F Γ a (.tuple (xs.map f))) (hb : EP X F Γ b (.int j)) (h0 : 0 ≤ j) (h1 : j < xs.length) (hs : PlainIx b := by exact fun _ _ => rfl) :
    EP X F Γ (.Subscript a b pos) (f (xs.getD j.toNat default)) := ep_ixT ha hb (atI_map h0 h1) hs
/-- a part of a list -/
def cutG {α : Type} (xs : List α) (lo hi : Option Int) : List α := (xs.drop (HT.sIx xs.length 0 lo)).take (HT.sIx xs.length xs.length hi - HT.sIx xs.length 0 lo)
theorem cutG_map {α β : Type} (f : α → β) (xs : List α) (lo hi : Option Int) : (cutG xs lo hi).map f = cutG (xs.map f) lo hi := by
  unfold cutG; rw [List.map_take, List.map_drop, List.length_map]
theorem cutG_len {α : Type} (xs : List α) (lo hi : Option Int) : (cutG xs lo hi).length ≤ xs.length := by
  unfold cutG; rw [List.length_take, List.length_drop]; omega
theorem RpL.cut {G : Hp} {vs : List V} {ds : List PyData} (r : RpL G vs ds) (lo hi : Option Int) : RpL G (cutG vs lo hi) (cutG ds lo hi) := by
  unfold cutG; rw [r.len]; exact (r.drop _).take _
def OP (X : Cx) (F : Fr) (Γ : List Kd) (e : Option Expr) (o : Option Int) : Prop := ∀ σ G H Fs, Env F G H σ Γ Fs → ∀ Q : Option Int → Hp → Prop, (∀ G' H', Grow G H G' H' → Q o H') → ∃ t, PO X e t ∧ t σ H Q
def wO (X : Cx) (e : Option Expr) : TO := fun σ H Q => ∃ t, PO X e t ∧ t σ H Q
theorem op_none : OP X F Γ none none := fun σ G H Fs E Q q => ⟨_, po_none, q _ _ (.refl E.gh)⟩
theorem op_some {j : Int} (h : EP X F Γ e (.int j)) : OP X F Γ (some e) (some j) := fun σ G H Fs E Q q => ⟨_, po_some pe_w, h σ G H Fs E _ fun v G1 H1 w1 r1 => by
  obtain rfl := r1.int_inv
  exact ⟨j, rfl, q _ _ w1⟩⟩
theorem np_slL {lo hi : Option Expr} {l u : Option Int} {p2 : Pos} (ha : LP X F Γ a ds) (hl : OP X F Γ lo l) (hu : OP X F Γ hi u) : NP X F Γ (.Subscript a (.Slice lo hi none p2) pos) (cutG ds l u) := fun σ G H Fs E Q q => by
  have Wo : ∀ (e : Option Expr), PO X e (wO X e) := fun e => ⟨fun pins s σ H Q I h => by obtain ⟨t, p, q⟩ := h; exact p.run pins s σ H Q I q⟩
  refine ⟨_, pe_slice sl_list pe_w (Wo lo) (Wo hi), ?_⟩
  refine ha σ G H Fs E _ fun p vs G1 H1 w1 h1 hc r1 => hl σ G1 H1 Fs (E.grow w1) _ fun G2 H2 w2 => hu σ G2 H2 Fs ((E.grow w1).grow w2) _ fun G3 H3 w3 => ?_
  refine ⟨p, vs, rfl, .inl (.inl (w3.h _ _ (w2.h _ _ h1))), fun z hz => ?_⟩
  have w := (w1.trans w2).trans w3
  exact q z _ G3 _ (w.trans (.raw w.s hz)) (w.h.none hz) (w.s.none hz) upd_same (Nat.le_trans (cutG_len _ _ _) hc) ((r1.mono (w2.g.trans w3.g)).cut l u)
theorem np_slS {lo hi : Option Expr} {l u : Option Int} {p2 : Pos} {ns : List Int} (C : Cok X M F N sc kk) (h : Sel N Γ x i (.arg (.scr ns))) (hv : Vis sc x) {px : Pos} (hl : OP X F Γ lo l) (hu : OP X F Γ hi u)
    (hd : (x == ("__debug__" : Str)) = false := by decide) (hcd : (x == ("__classdict__" : Str)) = false := by decide) : NP X F Γ (.Subscript (.Name x px) (.Slice lo hi none p2) pos) ((cutG ns l u).map .int) := fun σ G H Fs E Q q => by
  have Wo : ∀ (e : Option Expr), PO X e (wO X e) := fun e => ⟨fun pins s σ H Q I h => by obtain ⟨t, p, q⟩ := h; exact p.run pins s σ H Q I q⟩
  refine ⟨_, pe_slice sl_list pe_w (Wo lo) (Wo hi), ?_⟩
  obtain ⟨_, v, h1, p, rfl, hS, h63⟩ := E.sl i _ h.k
  refine w_name C h hv h1 ?_ hd hcd
  refine hl σ G H Fs E _ fun G2 H2 w2 => hu σ G2 H2 Fs (E.grow w2) _ fun G3 H3 w3 => ?_
  have w := w2.trans w3
  refine ⟨p, ns.map V.int, rfl, ?_, fun z hz => ?_⟩
  · rw [C.hK, ← C.hF]; exact Same.seq w.h (Same.seq E.bh hS)
  · have e1 : cutV (ns.map V.int) l u = (cutG ns l u).map V.int := (cutG_map _ _ _ _).symm
    rw [e1]
    refine q z _ G3 _ (w.trans (.raw w.s hz)) (w.h.none hz) (w.s.none hz) upd_same ?_ (.ints _)
    rw [List.length_map]
    exact Nat.le_trans (cutG_len _ _ _) (Nat.le_trans h63 (by decide))
theorem ep_slT {lo hi : Option Expr} {l u : Option Int} {p2 : Pos} (ha : EP X F Γ a (.tuple ds)) (hl : OP X F Γ lo l) (hu : OP X F Γ hi u) : EP X F Γ (.Subscript a (.Slice lo hi none p2) pos) (.tuple (cutG ds l u)) := fun σ G H Fs E Q q => by
  have Wo : ∀ (e : Option Expr), PO X e (wO X e) := fun e => ⟨fun pins s σ H Q I h => by obtain ⟨t, p, q⟩ := h; exact p.run pins s σ H Q I q⟩
  refine ⟨_, pe_slice sl_tupA pe_w (Wo lo) (Wo hi), ?_⟩
  refine ha σ G H Fs E _ fun x G1 H1 w1 r1 => hl σ G1 H1 Fs (E.grow w1) _ fun G2 H2 w2 => hu σ G2 H2 Fs ((E.grow w1).grow w2) _ fun G3 H3 w3 => ?_
  obtain ⟨p, vs, rfl, h1, hc, r1⟩ := r1.tup_inv
  have w := (w1.trans w2).trans w3
  have g3 := w3.g _ _ (w2.g _ _ h1)
  have r3 := r1.mono (w2.g.trans w3.g)
  refine ⟨p, vs, rfl, .inl (.inl (w3.s _ _ g3)), fun ⟨z1, z2⟩ => ?_, fun _ z hz => ?_⟩
  · have e1 : cutG ds l u = ds := by
      unfold cutG
      rw [← r1.len, z1, z2, List.drop_zero, Nat.sub_zero, r1.len, List.take_length]
    exact q _ G3 H3 w (e1.symm ▸ .tup g3 hc r3)
  · exact q _ _ _ (w.trans (.new w.s hz)) (.tup upd_same (Nat.le_trans (cutG_len _ _ _) hc) ((r3.cut l u).mono (.new (w.s.none hz))))

/-! ### lists joined, asked -/
theorem np_cat {da db : List PyData} (ha : LP X F Γ a da) (hb : LP X F Γ b db) (hl : da.length + db.length ≤ cap) : NP X F Γ (.BinOp a .Add b pos) (da ++ db) := fun σ G H Fs E Q q => by
  refine ⟨_, pe_op op_cat pe_w pe_w, ?_⟩
  refine ha σ G H Fs E _ fun p vs G1 H1 w1 h1 hc r1 => hb σ G1 H1 Fs (E.grow w1) _ fun p2 vs2 G2 H2 w2 h2 hc2 r2 => ?_
  refine ⟨p, p2, vs, vs2, rfl, rfl, w2.h _ _ h1, h2, by rw [r1.len, r2.len]; exact cap_le hl, fun z hz => ?_⟩
  have w := w1.trans w2
  exact q z _ G2 _ (w.trans (.raw w.s hz)) (w.h.none hz) (w.s.none hz) upd_same (by rw [List.length_append]; exact hl) ((r1.mono w2.g).append r2)
theorem ep_catT {da db : List PyData} (ha : EP X F Γ a (.tuple da)) (hb : EP X F Γ b (.tuple db)) (h0 : da ≠ []) (hl : da.length + db.length ≤ cap) : EP X F Γ (.BinOp a .Add b pos) (.tuple (da ++ db)) := fun σ G H Fs E Q q => by
  refine ⟨_, pe_op op_catT pe_w pe_w, ?_⟩
  refine ha σ G H Fs E _ fun x G1 H1 w1 r1 => hb σ G1 H1 Fs (E.grow w1) _ fun y G2 H2 w2 r2 => ?_
  obtain ⟨p, vs, rfl, h1, hc, r1⟩ := r1.tup_inv
  obtain ⟨p2, vs2, rfl, h2, hc2, r2⟩ := r2.tup_inv
  have w := w1.trans w2
  have r1' := r1.mono w2.g
  refine ⟨p, p2, vs, vs2, rfl, rfl, .inl (.inl (w2.s _ _ (w2.g _ _ h1))), .inl (.inl (w2.s _ _ h2)), fun z => h0 ?_, by rw [r1.len, r2.len]; exact cap_le hl, fun z => ?_, fun z v hv => ?_⟩
  · subst z
    cases r1 with
    | nil => rfl
  · subst z
    cases r2 with
    | nil =>
      refine q _ _ _ w ?_
      rw [List.append_nil]
      exact .tup (w2.g _ _ h1) hc r1'
  · exact q _ _ _ (w.trans (.new w.s hv)) (.tup upd_same (by rw [List.length_append]; exact hl) ((r1'.append r2).mono (.new (w.s.none hv))))
theorem do_inL {neg : Bool} {ds : List PyData} {d : PyData} {G H : Hp} {p : Addr} {vs : List V} {x : V} (h : H p = some (.lst vs)) (r : RpL G vs ds) (rx : Rp G x d) (hx : flatV x = true) (ha : vs.all flatV = true) {Q : VK}
    (q : Q (.bl (if neg then !inV x vs else inV x vs)) H) : rIn X.K neg x (.ref p) H Q := ⟨p, vs, rfl, .inl (.inl (.inl h)), hx, ha, q⟩
theorem inV_ints {x : Int} : ∀ {ns : List Int}, inV (.int x) (ns.map V.int) = decide (x ∈ ns)
  | [] => rfl
  | n :: r => by
    have ih := inV_ints (x := x) (ns := r)
    unfold inV at ih ⊢
    rw [List.map_cons, List.any_cons, ih]
    have e1 : eqV (.int n) (.int x) = decide (n = x) := by
      by_cases z : n = x <;> simp [eqV, z]
    rw [e1]
    by_cases h : n = x
    · subst h; simp
    · have : x ≠ n := fun z => h z.symm
      simp [h, this]
theorem flat_ints : ∀ {ns : List Int}, (ns.map V.int).all flatV = true
  | [] => rfl
  | n :: r => by rw [List.map_cons, List.all_cons, flat_ints]; rfl
theorem ep_inI {y : Int} {ns : List Int} (ha : EP X F Γ a (.int y)) (hb : LP X F Γ b (ns.map .int)) (hm : behindInMarks .In b = false := by rfl) : EP X F Γ (.Compare a [.In] [b] pos) (.bool (decide (y ∈ ns))) := fun σ G H Fs E Q q => by
  refine ⟨_, pe_cmpR op_in_seq pe_w pe_w hm, ?_⟩
  refine ha σ G H Fs E _ fun x G1 H1 w1 r1 => hb σ G1 H1 Fs (E.grow w1) _ fun p vs G2 H2 w2 h2 hc2 r2 => ?_
  obtain rfl := r1.int_inv
  obtain rfl := r2.ints_inv
  refine ⟨p, _, rfl, .inl (.inl (.inl h2)), rfl, flat_ints, ?_⟩
  rw [if_neg Bool.false_ne_true, inV_ints]
  exact q _ _ _ (w1.trans w2) .bl
theorem ep_notInI {y : Int} {ns : List Int} (ha : EP X F Γ a (.int y)) (hb : LP X F Γ b (ns.map .int)) (hm : behindInMarks .NotIn b = false := by rfl) : EP X F Γ (.Compare a [.NotIn] [b] pos) (.bool (!decide (y ∈ ns))) := fun σ G H Fs E Q q => by
  refine ⟨_, pe_cmpR op_notIn_seq pe_w pe_w hm, ?_⟩
  refine ha σ G H Fs E _ fun x G1 H1 w1 r1 => hb σ G1 H1 Fs (E.grow w1) _ fun p vs G2 H2 w2 h2 hc2 r2 => ?_
  obtain rfl := r1.int_inv
  obtain rfl := r2.ints_inv
  refine ⟨p, _, rfl, .inl (.inl (.inl h2)), rfl, flat_ints, ?_⟩
  rw [if_pos rfl, inV_ints]
  exact q _ _ _ (w1.trans w2) .bl
end

/-! ### the built-ins -/
/-- which built-in names are still the built-ins -/
def Blt (mg : Str → Option Value) (xs : List Str) : Prop := ∀ x ∈ xs, mg x = none
section
variable {X : Cx} {M : Md} {F : Fr} {N : List Str} {sc : Scope} {kk : Nat} {Γ : List Kd} {e a b c : Expr} {es : List Expr} {d da db : PyData} {ds : List PyData} {p pos : Pos} {x : Str} {i : Nat} {k : Kd}
theorem Cok.mgn (C : Cok X M F N sc kk) (h : M.mg x = none) : X.mg x = none := by rw [C.hM]; exact h
theorem gl_of (C : Cok X M F N sc kk) (h : sc.names.lookup x = some .globalImplicit) : Gl X x := by
  show X.env.scope.names.lookup x = _
  rw [C.hs]; exact h
theorem ep_len (C : Cok X M F N sc kk) (hm : M.mg "len" = none) (ha : LP X F Γ a ds) (hg : sc.names.lookup ("len" : Str) = some .globalImplicit := by decide +kernel) (pl : plainE a = true := by rfl) : EP X F Γ (.Call (.Name "len" p) [a] [] pos) (.int ds.length) := fun σ G H Fs E Q q => by
  refine ⟨_, pe_callB call_len_seq (gl_of C hg) (C.mgn hm) PySem.boot_len (pa_cons pe_w pa_nil (star_plain pl _ _)) (he := star_plain pl _ _), ?_⟩
  refine ha σ G H Fs E _ fun p vs G1 H1 w1 h1 hc r1 => ⟨p, vs, rfl, .inl (.inl (.inl h1)), ?_⟩
  rw [r1.len]
  exact q _ _ _ w1 .int
theorem ep_lenT (C : Cok X M F N sc kk) (hm : M.mg "len" = none) (ha : EP X F Γ a (.tuple ds)) (hg : sc.names.lookup ("len" : Str) = some .globalImplicit := by decide +kernel) (pl : plainE a = true := by rfl) : EP X F Γ (.Call (.Name "len" p) [a] [] pos) (.int ds.length) := fun σ G H Fs E Q q => by
  refine ⟨_, pe_callB call_len_seq (gl_of C hg) (C.mgn hm) PySem.boot_len (pa_cons pe_w pa_nil (star_plain pl _ _)) (he := star_plain pl _ _), ?_⟩
  refine ha σ G H Fs E _ fun x G1 H1 w1 r1 => ?_
  obtain ⟨p, vs, rfl, h1, hc, r1⟩ := r1.tup_inv
  refine ⟨p, vs, rfl, .inr (.inl (.inl (w1.s _ _ h1))), ?_⟩
  rw [r1.len]
  exact q _ _ _ w1 .int
theorem ep_lenS (C : Cok X M F N sc kk) (hm : M.mg "len" = none) {ns : List Int} {px : Pos} (h : Sel N Γ x i (.arg (.scr ns))) (hv : Vis sc x) (hg : sc.names.lookup ("len" : Str) = some .globalImplicit := by decide +kernel)
    (hd : (x == ("__debug__" : Str)) = false := by decide) (hcd : (x == ("__classdict__" : Str)) = false := by decide) : EP X F Γ (.Call (.Name "len" p) [.Name x px] [] pos) (.int ns.length) := fun σ G H Fs E Q q => by
  refine ⟨_, pe_callB call_len_seq (gl_of C hg) (C.mgn hm) PySem.boot_len (pa_cons pe_w pa_nil), ?_⟩
  obtain ⟨_, v, h1, p, rfl, hS, h63⟩ := E.sl i _ h.k
  refine w_name C h hv h1 ?_ hd hcd
  refine ⟨p, _, rfl, .inl (by rw [C.hK, ← C.hF]; exact Same.seq E.bh hS), ?_⟩
  rw [List.length_map]
  exact q _ _ _ (.refl E.gh) .int
theorem ep_ixS (C : Cok X M F N sc kk) {ns : List Int} {px : Pos} {j : Int} (h : Sel N Γ x i (.arg (.scr ns))) (hv : Vis sc x) (hb : EP X F Γ b (.int j)) (h0 : 0 ≤ j) (h1 : j < ns.length) (hs : PlainIx b := by exact fun _ _ => rfl)
    (hd : (x == ("__debug__" : Str)) = false := by decide) (hcd : (x == ("__classdict__" : Str)) = false := by decide) : EP X F Γ (.Subscript (.Name x px) b pos) (.int (ns.getD j.toNat 0)) := fun σ G H Fs E Q q => by
  refine ⟨_, pe_ix ix_w pe_w pe_w hs, ?_⟩
  obtain ⟨_, v, h2, p, rfl, hS, h63⟩ := E.sl i _ h.k
  refine w_name C h hv h2 ?_ hd hcd
  refine hb σ G H Fs E _ fun y G2 H2 w2 r2 => ?_
  obtain rfl := r2.int_inv
  refine ⟨_, ix_list, p, ns.map V.int, j, .int (ns.getD j.toNat 0), rfl, rfl, ?_, ?_, q _ _ _ w2 .int⟩
  · rw [C.hK, ← C.hF]; exact Same.seq w2.h (Same.seq E.bh hS)
  · have hj : j.toNat < ns.length := by omega
    unfold atI ixN
    rw [if_pos h0, List.length_map, if_pos h1]
    show (ns.map V.int)[j.toNat]? = _
    rw [List.getElem?_map, List.getElem?_eq_getElem hj, List.getD_eq_getElem?_getD, List.getElem?_eq_getElem hj]
    rfl
theorem np_list (C : Cok X M F N sc kk) (hm : M.mg "list" = none) (ha : LP X F Γ a ds) (hg : sc.names.lookup ("list" : Str) = some .globalImplicit := by decide +kernel) (pl : plainE a = true := by rfl) : NP X F Γ (.Call (.Name "list" p) [a] [] pos) ds := fun σ G H Fs E Q q => by
  refine ⟨_, pe_callTy call_list_of (gl_of C hg) (C.mgn hm) (by decide +kernel) (pa_cons pe_w pa_nil (star_plain pl _ _)) (he := star_plain pl _ _), ?_⟩
  refine ha σ G H Fs E _ fun p vs G1 H1 w1 h1 hc r1 => ⟨p, vs, rfl, .inl (.inl (.inl h1)), fun z hz => ?_⟩
  exact q z vs G1 _ (w1.trans (.raw w1.s hz)) (w1.h.none hz) (w1.s.none hz) upd_same hc r1
theorem np_listT (C : Cok X M F N sc kk) (hm : M.mg "list" = none) (ha : EP X F Γ a (.tuple ds)) (hg : sc.names.lookup ("list" : Str) = some .globalImplicit := by decide +kernel) (pl : plainE a = true := by rfl) : NP X F Γ (.Call (.Name "list" p) [a] [] pos) ds := fun σ G H Fs E Q q => by
  refine ⟨_, pe_callTy call_list_of (gl_of C hg) (C.mgn hm) (by decide +kernel) (pa_cons pe_w pa_nil (star_plain pl _ _)) (he := star_plain pl _ _), ?_⟩
  refine ha σ G H Fs E _ fun x G1 H1 w1 r1 => ?_
  obtain ⟨p, vs, rfl, h1, hc, r1⟩ := r1.tup_inv
  exact ⟨p, vs, rfl, .inr (.inl (.inl (w1.s _ _ h1))), fun z hz => q z vs G1 _ (w1.trans (.raw w1.s hz)) (w1.h.none hz) (w1.s.none hz) upd_same hc r1⟩
theorem ep_tuple (C : Cok X M F N sc kk) (hm : M.mg "tuple" = none) (ha : LP X F Γ a ds) (hg : sc.names.lookup ("tuple" : Str) = some .globalImplicit := by decide +kernel) (pl : plainE a = true := by rfl) : EP X F Γ (.Call (.Name "tuple" p) [a] [] pos) (.tuple ds) := fun σ G H Fs E Q q => by
  refine ⟨_, pe_callTy call_tuple_of (gl_of C hg) (C.mgn hm) (by decide +kernel) (pa_cons pe_w pa_nil (star_plain pl _ _)) (he := star_plain pl _ _), ?_⟩
  refine ha σ G H Fs E _ fun p vs G1 H1 w1 h1 hc r1 => ⟨p, vs, rfl, .inl ⟨.inl (.inl h1), fun z hz => ?_⟩⟩
  exact q _ _ _ (w1.trans (.new w1.s hz)) (.tup upd_same hc (r1.mono (.new (w1.s.none hz))))
theorem ep_sum (C : Cok X M F N sc kk) (hm : M.mg "sum" = none) {ns : List Int} (ha : LP X F Γ a (ns.map .int)) (hg : sc.names.lookup ("sum" : Str) = some .globalImplicit := by decide +kernel) (pl : plainE a = true := by rfl) : EP X F Γ (.Call (.Name "sum" p) [a] [] pos) (.int ns.sum) := fun σ G H Fs E Q q => by
  refine ⟨_, pe_callB (cr_sum C.calm) (gl_of C hg) (C.mgn hm) (by decide +kernel) (pa_cons pe_w pa_nil (star_plain pl _ _)) (he := star_plain pl _ _), ?_⟩
  refine ha σ G H Fs E _ fun p vs G1 H1 w1 h1 hc r1 => ?_
  obtain rfl := r1.ints_inv
  exact ⟨p, ns, rfl, .inl (.inl h1), q _ _ _ w1 .int⟩
theorem ep_intB (C : Cok X M F N sc kk) (hm : M.mg "int" = none) {t : Bool} (ha : EP X F Γ a (.bool t)) (hg : sc.names.lookup ("int" : Str) = some .globalImplicit := by decide +kernel) (pl : plainE a = true := by rfl) : EP X F Γ (.Call (.Name "int" p) [a] [] pos) (.int (if t then 1 else 0)) := fun σ G H Fs E Q q => by
  refine ⟨_, pe_callTy call_int1 (gl_of C hg) (C.mgn hm) (by decide +kernel) (pa_cons pe_w pa_nil (star_plain pl _ _)) (he := star_plain pl _ _), ?_⟩
  refine ha σ G H Fs E _ fun x G1 H1 w1 r1 => ?_
  obtain rfl := r1.bl_inv
  exact .inr ⟨t, rfl, q _ _ _ w1 .int⟩
theorem ep_max2 (C : Cok X M F N sc kk) (hm : M.mg "max" = none) {m n : Int} (ha : EP X F Γ a (.int m)) (hb : EP X F Γ b (.int n)) (hg : sc.names.lookup ("max" : Str) = some .globalImplicit := by decide +kernel) (pl : plainE a = true := by rfl) (pl2 : plainE b = true := by rfl) : EP X F Γ (.Call (.Name "max" p) [a, b] [] pos) (.int (if n > m then n else m)) := fun σ G H Fs E Q q => by
  refine ⟨_, pe_callB (call_max2 C.calm) (gl_of C hg) (C.mgn hm) (by decide +kernel) (pa_cons pe_w (pa_cons pe_w pa_nil (star_plain pl2 _ _)) (star_plain pl _ _)) (he := star_plain pl _ _) (hpl := back_plain (by rw [List.all_cons, pl2]; rfl)), ?_⟩
  refine ha σ G H Fs E _ fun x G1 H1 w1 r1 => hb σ G1 H1 Fs (E.grow w1) _ fun y G2 H2 w2 r2 => ?_
  obtain rfl := r1.int_inv
  obtain rfl := r2.int_inv
  exact ⟨m, n, rfl, q _ _ _ (w1.trans w2) .int⟩
end
end Rn

namespace Rn
open PySem PySem.Spec PyProof.Rows L2

/-! ## comprehensions -/
section
variable {X : Cx} {M : Md} {F : Fr} {N : List Str} {sc scope : Scope} {kk : Nat} {Γ : List Kd} {e a b c elt src : Expr} {es ifs : List Expr} {d da db : PyData} {ds : List PyData} {p pos px : Pos} {x : Str} {i : Nat} {k : Kd}
abbrev Xblk (X : Cx) (scope : Scope) (s : Shared) (H : Hp) (C : Addr) (cl : List (Str × Addr)) (fp : List Addr) : Cx := X.blk s H scope (compEnvC scope cl C X.env) fp
theorem Cok.blk (C : Cok X M F N sc kk) {s : Shared} {H : Hp} {C0 : Addr} {cl : List (Str × Addr)} {fp : List Addr} : Cok (Xblk X scope s H C0 cl fp) M F N (relS scope sc) kk :=
  ⟨C.hP, C.hw, C.hK, C.hF, C.hM, C.hb, C.hN, by show relS scope X.env.scope = _; rw [C.hs], C.nd, C.calm, C.room⟩
/-- tests of a comprehension -/
def TsP (X : Cx) (F : Fr) (Γ : List Kd) (ifs : List Expr) (b : Bool) : Prop := ∀ σ G H Fs, Env F G H σ Γ Fs → ∀ Q : Bool → Hp → Prop, (∀ G' H', Grow G H G' H' → Q b H') → ∃ t, PTs X ifs t ∧ t σ H Q
theorem tsp_nil : TsP X F Γ [] true := fun σ G H Fs E Q q => ⟨_, pts_nil, q _ _ (.refl E.gh)⟩
theorem tsp_one {t : Bool} (h : TP_ X F Γ c t) : TsP X F Γ [c] t := fun σ G H Fs E Q q => ⟨_, pts_one pt_w, h σ G H Fs E Q q⟩
/-- the parts of a comprehension -/
def CP (X : Cx) (F : Fr) (Γ : List Kd) (elt tg src : Expr) (ifs : List Expr) (scope : Scope) (ds : List PyData) : Prop := ∀ σ G H Fs, Env F G H σ Γ Fs → ∀ Q : VK,
  (∀ a vs G' H', Grow G H G' H' → H a = none → G' a = none → H' a = some (.lst vs) → ds.length ≤ cap → RpL G' vs ds → Q (.ref a) H') →
  ∃ wi g tt te own, PI X tg src wi ∧ BlkOk X.N X.env.scope scope own ∧ (∀ (s : Shared) (H : Hp) (C : Addr) (cl : List (Str × Addr)) (fp : List Addr), PG (Xblk X scope s H C cl fp) tg g) ∧
    (∀ (s : Shared) (H : Hp) (C : Addr) (cl : List (Str × Addr)) (fp : List Addr), PTs (Xblk X scope s H C cl fp) ifs tt) ∧ (∀ (s : Shared) (H : Hp) (C : Addr) (cl : List (Str × Addr)) (fp : List Addr), PE (Xblk X scope s H C cl fp) elt te) ∧
    tLc wi g tt te (own.map (·.2)) σ H Q
theorem np_lc (C : Cok X M F N sc kk) {tg : Expr} (h : CP X F Γ elt tg src ifs scope ds) (hs : ∀ x, foldedSetIterable src X.env x = pure x := by intro _; rfl) : NP X F Γ (.ListComp elt [⟨tg, src, ifs, 0⟩] scope pos) ds := fun σ G H Fs E Q q => by
  obtain ⟨wi, g, tt, te, own, h1, h2, h3, h4, h5, h6⟩ := h σ G H Fs E Q q
  exact ⟨_, pe_lc C.calm (by rw [C.hN]; exact C.nd) h1 h2 h3 h4 h5 hs, h6⟩

/-- the state of a comprehension that has made vs of zs so far: where it started (G, H), the new list at D -/
structure Lcs (G H : Hp) (D : Addr) (zs : List PyData) (G1 H1 : Hp) : Prop where
  w : Grow G H G1 H1
  d : G1 D = none
  l : ∃ vs, H1 D = some (.lst vs) ∧ RpL G1 vs zs
theorem Lcs.step {G H G1 H1 G2 H2 : Hp} {D : Addr} {zs : List PyData} (hD : H D = none) (L : Lcs G H D zs G1 H1) (w : Grow G1 H1 G2 H2) : Lcs G H D zs G2 H2 := by
  obtain ⟨vs, h1, r⟩ := L.l
  exact ⟨L.w.trans w, (w.o D (by rw [h1]; exact fun z => by cases z)).trans L.d, vs, w.h _ _ h1, r.mono w.g⟩
theorem Lcs.push {G H G1 H1 : Hp} {D : Addr} {zs : List PyData} {acc : List V} {y : V} {z : PyData} (hD : H D = none) (L : Lcs G H D zs G1 H1) (ha : H1 D = some (.lst acc)) (hy : Rp G1 y z) : Lcs G H D (zs ++ [z]) G1 (upd H1 D (.lst (acc ++ [y]))) := by
  obtain ⟨vs, h1, r⟩ := L.l
  have e : vs = acc := by rw [h1] at ha; exact HO.lst.inj (Option.some.inj ha)
  subst e
  refine ⟨⟨L.w.g, fun a u q => ?_, fun a u q => ?_, L.w.o⟩, L.d, _, upd_same, r.append (.cons hy .nil)⟩
  · rw [upd_ne (ne_of_none q L.d)]; exact L.w.s _ _ q
  · rw [upd_ne (ne_of_none q hD)]; exact L.w.h _ _ q
def tSrc (X : Cx) (scope : Scope) (ifs : List Expr) : TT := fun σ H Q => ∀ (s : Shared) (H0 : Hp) (C : Addr) (cl : List (Str × Addr)) (fp : List Addr), ∃ t, PTs (Xblk X scope s H0 C cl fp) ifs t ∧ t σ H Q
def eSrc (X : Cx) (scope : Scope) (e : Expr) : TE := fun σ H Q => ∀ (s : Shared) (H0 : Hp) (C : Addr) (cl : List (Str × Addr)) (fp : List Addr), wE (Xblk X scope s H0 C cl fp) e σ H Q

theorem set_set_some {σ : L2.St} {i : Nat} {v : V} : (wipe σ [i]).set i (some v) = σ.set i (some v) := by
  show ((σ.set i none).set i (some v)) = _
  rw [List.set_set]
theorem wipe_set {σ : L2.St} {i : Nat} {v : V} : wipe (σ.set i (some v)) [i] = wipe σ [i] := by
  show ((σ.set i (some v)).set i none) = σ.set i none
  rw [List.set_set]

/-- one turn of a comprehension with one name -/
theorem lc_turn {α : Type} (fE : α → PyData) (pT : α → Bool) {y : α} {v : V} {dv : PyData} (hx : Sel N Γ x i k) (hd : k.dry = true) {σ : L2.St} {G H G1 H1 Gs Hs : Hp} {D : Addr} {Fs : Nat → Addr → Prop} {zs : List PyData} (E : Env F Gs Hs σ Γ Fs) (hD : Hs D = none) (L : Lcs Gs Hs D zs G1 H1)
    (rv : Rp G1 v dv) (hz : zs.length < cap)
    (hT : ∀ s H0 C0 cl fp, TsP (Xblk X scope s H0 C0 cl fp) F (Γ.set i (.val dv)) ifs (pT y)) (hE : pT y = true → ∀ s H0 C0 cl fp, EP (Xblk X scope s H0 C0 cl fp) F (Γ.set i (.val dv)) elt (fE y))
    {Nx : Hp → Prop} (q1 : pT y = true → ∀ G2 H2, Lcs Gs Hs D (zs ++ [fE y]) G2 H2 → Nx H2) (q0 : pT y = false → ∀ G2 H2, Lcs Gs Hs D zs G2 H2 → Nx H2) :
    gName i v (wipe σ [i]) H1 fun σ2 H2 => wipe σ2 [i] = wipe σ [i] ∧ tSrc X scope ifs σ2 H2 fun b H3 => if b = true then eSrc X scope elt σ2 H3 fun y H4 => ∃ acc, H4 D = some (.lst acc) ∧ acc.length < sizeLine ∧ Nx (upd H4 D (.lst (acc ++ [y]))) else Nx H3 := by
  show wipe ((wipe σ [i]).set i (some v)) [i] = wipe σ [i] ∧ _
  rw [set_set_some]
  refine ⟨wipe_set, fun s H0 C0 cl fp => ?_⟩
  have E1 : Env F G1 H1 (σ.set i (some v)) (Γ.set i (.val dv)) Fs := (E.grow L.w).putD hx.k hd (kat_val rv)
  refine hT s H0 C0 cl fp _ G1 H1 Fs E1 _ fun G2 H2 w2 => ?_
  have L2 := L.step hD w2
  cases hp : pT y with
  | false => exact iteF (q0 hp G2 H2 L2)
  | true =>
    refine iteT fun s H0 C0 cl fp => ?_
    refine hE hp s H0 C0 cl fp _ G2 H2 Fs (E1.grow w2) _ fun v3 G3 H3 w3 r3 => ?_
    have L3 := L2.step hD w3
    obtain ⟨vs, h3, rs⟩ := L3.l
    refine ⟨vs, h3, ?_, q1 hp G3 _ (L3.push hD h3 r3)⟩
    rw [rs.len]
    exact cap_lt hz
theorem Lcs.start {G H : Hp} (e : Ex G H) {D : Addr} (hD : H D = none) : Lcs G H D [] G (upd H D (.lst [])) := ⟨.raw e hD, e.none hD, [], upd_same, .nil⟩
theorem take_filter_succ {α : Type} {p : α → Bool} {xs : List α} {i : Nat} {y : α} (h : xs[i]? = some y) : (xs.take (i + 1)).filter p = (xs.take i).filter p ++ (if p y = true then [y] else []) := by
  rw [List.take_add_one, h, List.filter_append]
  congr 1
  show (List.filter p [y]) = _
  by_cases z : p y = true
  · rw [if_pos z, List.filter_cons_of_pos z, List.filter_nil]
  · rw [if_neg z, List.filter_cons_of_neg z, List.filter_nil]

/-- [elt for x in (a list) if ..] -/
theorem cp_list {α : Type} {f fE : α → PyData} {pT : α → Bool} {xs : List α} (C : Cok X M F N sc kk) (hx : Sel N Γ x i k) (hd : k.dry = true) (hs : LP X F Γ src (xs.map f)) (ok : blkC N sc scope [(x, i)] = true) (hl : Loc (relS scope sc) x) (hf : (relS scope sc).names.lookup x = some .local ∨ (scope.names.lookup x == some .cell) = true)
    (hT : ∀ y ∈ xs, ∀ s H0 C0 cl fp, Cok (Xblk X scope s H0 C0 cl fp) M F N (relS scope sc) kk → TsP (Xblk X scope s H0 C0 cl fp) F (Γ.set i (.val (f y))) ifs (pT y)) (hE : ∀ y ∈ xs, pT y = true → ∀ s H0 C0 cl fp, Cok (Xblk X scope s H0 C0 cl fp) M F N (relS scope sc) kk → EP (Xblk X scope s H0 C0 cl fp) F (Γ.set i (.val (f y))) elt (fE y)) :
    CP X F Γ elt (.Name x px) src ifs scope ((xs.filter pT).map fE) := fun σ G H Fs E Q q => by
  refine ⟨_, gName i, tSrc X scope ifs, eSrc X scope elt, [(x, i)], pi_list pe_w, by rw [C.hN, C.hs]; exact blkOk_by ok, fun s H C0 cl fp => ?_, fun s H C0 cl fp => ⟨fun pins s1 σ H5 Q I h => ?_⟩, fun s H C0 cl fp => ⟨fun pins s1 σ H5 Q I h => ?_⟩, ?_⟩
  · have C' := C.blk (scope := scope) (s := s) (H := H) (C0 := C0) (cl := cl) (fp := fp)
    refine pg_name (by rw [C'.hN]; exact C'.nd) (by rw [C'.hN]; exact hx.n) (by rw [C'.hs]; exact hl) ?_
    rcases hf with z | z
    · exact .inr (by rw [C'.hs]; exact z)
    · exact .inl z
  · obtain ⟨t, p1, p2⟩ := h s H C0 cl fp
    exact p1.run pins s1 σ _ Q I p2
  · exact pe_w.run pins s1 σ _ Q I (h s H C0 cl fp)
  · refine hs σ G H Fs E _ fun a vs G1 H1 w1 h1 hc r1 => ?_
    refine ⟨a, rfl, ⟨vs, .inl (.inl (by rw [h1]))⟩, fun D hD => ?_⟩
    have E1 := E.grow w1
    refine lc_list (K := X.K) (a := a) (xs := vs) (fun j H' => ∃ G', Lcs G1 H1 D (((xs.take j).filter pT).map fE) G' H') ⟨G1, Lcs.start w1.s hD⟩ (fun j H' _ ⟨G', L⟩ => .inl (.inl (L.w.h _ _ h1))) (fun j v H' hv ⟨G', L⟩ => ?_) fun H' ⟨G', L⟩ => ?_
    · obtain ⟨dv, hdv, rv⟩ := r1.get' hv
      rw [List.getElem?_map] at hdv
      cases hy : xs[j]? with
      | none => rw [hy] at hdv; cases hdv
      | some y =>
        rw [hy] at hdv
        obtain rfl := Option.some.inj hdv
        have hm : y ∈ xs := List.mem_of_getElem? hy
        have hlt : j < xs.length := (List.getElem?_eq_some_iff.mp hy).1
        refine lc_turn (G := G) (H := H) fE pT hx hd E1 hD L (rv.mono L.w.g) ?_ (fun s H0 C0 cl fp => hT y hm s H0 C0 cl fp C.blk) (fun z s H0 C0 cl fp => hE y hm z s H0 C0 cl fp C.blk) (fun z G2 H2 L2 => ⟨G2, ?_⟩) (fun z G2 H2 L2 => ⟨G2, ?_⟩)
        · rw [List.length_map]
          have := List.length_filter_le pT (xs.take j)
          rw [List.length_take] at this
          rw [List.length_map] at hc
          omega
        · rw [take_filter_succ hy, if_pos z, List.map_append]; exact L2
        · rw [take_filter_succ hy, if_neg (by rw [z]; exact Bool.false_ne_true), List.append_nil]; exact L2
    · have el : vs.length = xs.length := by rw [r1.len, List.length_map]
      rw [el, List.take_length] at L
      obtain ⟨ws, h2, r2⟩ := L.l
      refine q D ws G' H' (w1.trans L.w) (w1.h.none hD) L.d h2 ?_ r2
      rw [List.length_map]
      have := List.length_filter_le pT xs
      rw [List.length_map] at hc
      omega
/-- [elt for x in range(n) if ..] -/
theorem cp_range {n : Int} {fE : Nat → PyData} {pT : Nat → Bool} {pr : Pos} (C : Cok X M F N sc kk) (hm : M.mg "range" = none) (hx : Sel N Γ x i k) (hd : k.dry = true) (hs : EP X F Γ e (.int n)) (hn : n ≤ 100000) (ok : blkC N sc scope [(x, i)] = true) (hl : Loc (relS scope sc) x) (hf : (relS scope sc).names.lookup x = some .local ∨ (scope.names.lookup x == some .cell) = true)
    (hg : sc.names.lookup ("range" : Str) = some .globalImplicit) (hpl : plainE e = true)
    (hT : ∀ j, j < n.toNat → ∀ s H0 C0 cl fp, Cok (Xblk X scope s H0 C0 cl fp) M F N (relS scope sc) kk → TsP (Xblk X scope s H0 C0 cl fp) F (Γ.set i (.val (.int (j : Int)))) ifs (pT j)) (hE : ∀ j, j < n.toNat → pT j = true → ∀ s H0 C0 cl fp, Cok (Xblk X scope s H0 C0 cl fp) M F N (relS scope sc) kk → EP (Xblk X scope s H0 C0 cl fp) F (Γ.set i (.val (.int (j : Int)))) elt (fE j)) (hn0 : -100000 ≤ n := by omega) :
    CP X F Γ elt (.Name x px) (.Call (.Name "range" pr) [e] [] pos) ifs scope (((List.range n.toNat).filter pT).map fE) := fun σ G H Fs E Q q => by
  refine ⟨_, gName i, tSrc X scope ifs, eSrc X scope elt, [(x, i)], pi_range1 (gl_of C hg) (C.mgn hm) (pa_cons pe_w pa_nil (star_plain hpl _ _)) (by rw [star_plain hpl]; rfl), by rw [C.hN, C.hs]; exact blkOk_by ok, fun s H C0 cl fp => ?_, fun s H C0 cl fp => ⟨fun pins s1 σ H5 Q I h => ?_⟩, fun s H C0 cl fp => ⟨fun pins s1 σ H5 Q I h => ?_⟩, ?_⟩
  · have C' := C.blk (scope := scope) (s := s) (H := H) (C0 := C0) (cl := cl) (fp := fp)
    refine pg_name (by rw [C'.hN]; exact C'.nd) (by rw [C'.hN]; exact hx.n) (by rw [C'.hs]; exact hl) ?_
    rcases hf with z | z
    · exact .inr (by rw [C'.hs]; exact z)
    · exact .inl z
  · obtain ⟨t, p1, p2⟩ := h s H C0 cl fp
    exact p1.run pins s1 σ _ Q I p2
  · exact pe_w.run pins s1 σ _ Q I (h s H C0 cl fp)
  · refine hs σ G H Fs E _ fun v G1 H1 w1 r1 => ?_
    obtain rfl := r1.int_inv
    refine ⟨n, rfl, by omega, by omega, fun D hD => ?_⟩
    have E1 := E.grow w1
    refine lc_range (lo := 0) (n := n.toNat) (fun j H' => ∃ G', Lcs G1 H1 D ((((List.range n.toNat).take j).filter pT).map fE) G' H') ⟨G1, Lcs.start w1.s hD⟩ (fun j H' hj ⟨G', L⟩ => ?_) fun H' ⟨G', L⟩ => ?_
    · have hy : (List.range n.toNat)[j]? = some j := by rw [List.getElem?_range hj]
      refine lc_turn (G := G) (H := H) (dv := .int (j : Int)) fE pT hx hd E1 hD L ?_ ?_ (fun s H0 C0 cl fp => hT j hj s H0 C0 cl fp C.blk) (fun z s H0 C0 cl fp => hE j hj z s H0 C0 cl fp C.blk) (fun z G2 H2 L2 => ⟨G2, ?_⟩) (fun z G2 H2 L2 => ⟨G2, ?_⟩)
      · rw [Int.zero_add]; exact .int
      · rw [List.length_map]
        have := List.length_filter_le pT ((List.range n.toNat).take j)
        rw [List.length_take, List.length_range] at this
        unfold cap
        omega
      · rw [take_filter_succ hy, if_pos z, List.map_append]; exact L2
      · rw [take_filter_succ hy, if_neg (by rw [z]; exact Bool.false_ne_true), List.append_nil]; exact L2
    · rw [List.take_of_length_le (by rw [List.length_range]; exact Nat.le_refl _)] at L
      obtain ⟨ws, h2, r2⟩ := L.l
      refine q D ws G' H' (w1.trans L.w) (w1.h.none hD) L.d h2 ?_ r2
      rw [List.length_map]
      have := List.length_filter_le pT (List.range n.toNat)
      rw [List.length_range] at this
      unfold cap
      omega
theorem filter_tt {α : Type} (xs : List α) : xs.filter (fun _ => true) = xs := by
  induction xs with
  | nil => rfl
  | cons x r ih => rw [List.filter_cons_of_pos rfl, ih]
theorem cp_list0 {α : Type} {f fE : α → PyData} {xs : List α} (C : Cok X M F N sc kk) (hx : Sel N Γ x i k) (hd : k.dry = true) (hs : LP X F Γ src (xs.map f)) (ok : blkC N sc scope [(x, i)] = true) (hl : Loc (relS scope sc) x) (hf : (relS scope sc).names.lookup x = some .local ∨ (scope.names.lookup x == some .cell) = true)
    (hE : ∀ y ∈ xs, ∀ s H0 C0 cl fp, Cok (Xblk X scope s H0 C0 cl fp) M F N (relS scope sc) kk → EP (Xblk X scope s H0 C0 cl fp) F (Γ.set i (.val (f y))) elt (fE y)) :
    CP X F Γ elt (.Name x px) src [] scope (xs.map fE) := by
  have h := cp_list (px := px) (pT := fun _ => true) (ifs := []) C hx hd hs ok hl hf (fun _ _ _ _ _ _ _ _ => tsp_nil) fun y hy _ => hE y hy
  rw [filter_tt] at h
  exact h
theorem cp_listI0 {α : Type} {f : α → PyData} {g : α → Int} {xs : List α} (C : Cok X M F N sc kk) (hx : Sel N Γ x i k) (hd : k.dry = true) (hs : LP X F Γ src (xs.map f)) (ok : blkC N sc scope [(x, i)] = true) (hl : Loc (relS scope sc) x) (hf : (relS scope sc).names.lookup x = some .local ∨ (scope.names.lookup x == some .cell) = true)
    (hE : ∀ y ∈ xs, ∀ s H0 C0 cl fp, Cok (Xblk X scope s H0 C0 cl fp) M F N (relS scope sc) kk → EP (Xblk X scope s H0 C0 cl fp) F (Γ.set i (.val (f y))) elt (.int (g y))) :
    CP X F Γ elt (.Name x px) src [] scope ((xs.map g).map .int) := by
  have h := cp_list0 (px := px) (fE := fun y => .int (g y)) C hx hd hs ok hl hf hE
  rw [List.map_map]
  exact h
theorem cp_listI {α : Type} {f : α → PyData} {g : α → Int} {pT : α → Bool} {xs : List α} (C : Cok X M F N sc kk) (hx : Sel N Γ x i k) (hd : k.dry = true) (hs : LP X F Γ src (xs.map f)) (ok : blkC N sc scope [(x, i)] = true) (hl : Loc (relS scope sc) x) (hf : (relS scope sc).names.lookup x = some .local ∨ (scope.names.lookup x == some .cell) = true)
    (hT : ∀ y ∈ xs, ∀ s H0 C0 cl fp, Cok (Xblk X scope s H0 C0 cl fp) M F N (relS scope sc) kk → TsP (Xblk X scope s H0 C0 cl fp) F (Γ.set i (.val (f y))) ifs (pT y))
    (hE : ∀ y ∈ xs, pT y = true → ∀ s H0 C0 cl fp, Cok (Xblk X scope s H0 C0 cl fp) M F N (relS scope sc) kk → EP (Xblk X scope s H0 C0 cl fp) F (Γ.set i (.val (f y))) elt (.int (g y))) :
    CP X F Γ elt (.Name x px) src ifs scope (((xs.filter pT).map g).map .int) := by
  have h := cp_list (px := px) (fE := fun y => .int (g y)) C hx hd hs ok hl hf hT hE
  rw [List.map_map]
  exact h
theorem cp_range0 {n : Int} {fE : Nat → PyData} {pr : Pos} (C : Cok X M F N sc kk) (hm : M.mg "range" = none) (hx : Sel N Γ x i k) (hd : k.dry = true) (hs : EP X F Γ e (.int n)) (hn : n ≤ 100000) (ok : blkC N sc scope [(x, i)] = true) (hl : Loc (relS scope sc) x) (hf : (relS scope sc).names.lookup x = some .local ∨ (scope.names.lookup x == some .cell) = true)
    (hg : sc.names.lookup ("range" : Str) = some .globalImplicit) (hpl : plainE e = true)
    (hE : ∀ j, j < n.toNat → ∀ s H0 C0 cl fp, Cok (Xblk X scope s H0 C0 cl fp) M F N (relS scope sc) kk → EP (Xblk X scope s H0 C0 cl fp) F (Γ.set i (.val (.int (j : Int)))) elt (fE j)) (hn0 : -100000 ≤ n := by omega) :
    CP X F Γ elt (.Name x px) (.Call (.Name "range" pr) [e] [] pos) [] scope ((List.range n.toNat).map fE) := by
  have h := cp_range (px := px) (pr := pr) (pos := pos) (pT := fun _ => true) (ifs := []) C hm hx hd hs hn ok hl hf hg hpl (fun _ _ _ _ _ _ _ _ => tsp_nil) (fun y hy _ => hE y hy) hn0
  rw [filter_tt] at h
  exact h
theorem cp_rangeI0 {n : Int} {g : Nat → Int} {pr : Pos} (C : Cok X M F N sc kk) (hm : M.mg "range" = none) (hx : Sel N Γ x i k) (hd : k.dry = true) (hs : EP X F Γ e (.int n)) (hn : n ≤ 100000) (ok : blkC N sc scope [(x, i)] = true) (hl : Loc (relS scope sc) x) (hf : (relS scope sc).names.lookup x = some .local ∨ (scope.names.lookup x == some .cell) = true)
    (hg : sc.names.lookup ("range" : Str) = some .globalImplicit) (hpl : plainE e = true)
    (hE : ∀ j, j < n.toNat → ∀ s H0 C0 cl fp, Cok (Xblk X scope s H0 C0 cl fp) M F N (relS scope sc) kk → EP (Xblk X scope s H0 C0 cl fp) F (Γ.set i (.val (.int (j : Int)))) elt (.int (g j))) (hn0 : -100000 ≤ n := by omega) :
    CP X F Γ elt (.Name x px) (.Call (.Name "range" pr) [e] [] pos) [] scope (((List.range n.toNat).map g).map .int) := by
  have h := cp_range0 (px := px) (pr := pr) (pos := pos) (fE := fun y => .int (g y)) C hm hx hd hs hn ok hl hf hg hpl hE hn0
  rw [List.map_map]
  exact h
theorem cp_rangeI {n : Int} {g : Nat → Int} {pT : Nat → Bool} {pr : Pos} (C : Cok X M F N sc kk) (hm : M.mg "range" = none) (hx : Sel N Γ x i k) (hd : k.dry = true) (hs : EP X F Γ e (.int n)) (hn : n ≤ 100000) (ok : blkC N sc scope [(x, i)] = true) (hl : Loc (relS scope sc) x) (hf : (relS scope sc).names.lookup x = some .local ∨ (scope.names.lookup x == some .cell) = true)
    (hg : sc.names.lookup ("range" : Str) = some .globalImplicit) (hpl : plainE e = true)
    (hT : ∀ j, j < n.toNat → ∀ s H0 C0 cl fp, Cok (Xblk X scope s H0 C0 cl fp) M F N (relS scope sc) kk → TsP (Xblk X scope s H0 C0 cl fp) F (Γ.set i (.val (.int (j : Int)))) ifs (pT j))
    (hE : ∀ j, j < n.toNat → pT j = true → ∀ s H0 C0 cl fp, Cok (Xblk X scope s H0 C0 cl fp) M F N (relS scope sc) kk → EP (Xblk X scope s H0 C0 cl fp) F (Γ.set i (.val (.int (j : Int)))) elt (.int (g j))) (hn0 : -100000 ≤ n := by omega) :
    CP X F Γ elt (.Name x px) (.Call (.Name "range" pr) [e] [] pos) ifs scope ((((List.range n.toNat).filter pT).map g).map .int) := by
  have h := cp_range (px := px) (pr := pr) (pos := pos) (fE := fun y => .int (g y)) C hm hx hd hs hn ok hl hf hg hpl hT hE hn0
  rw [List.map_map]
  exact h
end
end Rn

namespace Rn
open PySem PySem.Spec PyProof.Rows L2

/-! ## promises of pure defs -/
inductive ArL (K : PySem.W.Frag) (G H : Hp) : List V → List Ar → Prop
  | nil : ArL K G H [] []
  | cons {v : V} {a : Ar} {vs : List V} {as : List Ar} : ArAt K G H v a → ArL K G H vs as → ArL K G H (v :: vs) (a :: as)
theorem ArL.len {K : PySem.W.Frag} {G H : Hp} : ∀ {vs : List V} {as : List Ar}, ArL K G H vs as → vs.length = as.length
  | _, _, .nil => rfl
  | _, _, .cons _ r => by rw [List.length_cons, List.length_cons, r.len]
theorem ArL.get {K : PySem.W.Frag} {G H : Hp} : ∀ {vs : List V} {as : List Ar} {i : Nat} {a : Ar}, ArL K G H vs as → as[i]? = some a → ∃ v, vs[i]? = some v ∧ ArAt K G H v a
  | _, _, _, _, .nil, h => by simp at h
  | _, _, 0, _, .cons r _, h => by simp at h; subst h; exact ⟨_, rfl, r⟩
  | _, _, i + 1, _, .cons _ t, h => by
    obtain ⟨v, h1, h2⟩ := ArL.get (i := i) t (by simpa using h)
    exact ⟨v, by simpa using h1, h2⟩
def spP (K : PySem.W.Frag) (R : List Ar → PyData → Prop) : Sp := fun vs H Q _ => ∃ G ars d, Ex G H ∧ R ars d ∧ ArL K G H vs ars ∧ ∀ v G' H', Grow G H G' H' → Rp G' v d → Q v H'
structure FnA (M : Md) (k : Nat) (x : Str) (R : List Ar → PyData → Prop) : Prop where
  ex : ∃ (f : Addr) (fd : FuncData) (ps : List Str), FnOk M.P M.w M.K M.mg M.base (L2.CX M.P M.w) k f fd ps (spP M.K R) ∧ M.mg x = some (.ref f) ∧ PySem.W.keepIn M.K (.ref f) = true ∧ Binds M.K fd ps []

section
variable {X : Cx} {M : Md} {F : Fr} {N : List Str} {sc scope : Scope} {kk : Nat} {Γ : List Kd} {e a b c elt src : Expr} {es ifs : List Expr} {d da db : PyData} {ds : List PyData} {p pos px : Pos} {x : Str} {i : Nat} {k : Kd}
def ArP (X : Cx) (F : Fr) (Γ : List Kd) (es : List Expr) (ars : List Ar) : Prop := ∀ σ G H Fs, Env F G H σ Γ Fs → ∀ Q : List V → Hp → Prop, (∀ vs G' H', Grow G H G' H' → ArL F.K G' H' vs ars → Q vs H') → wA X es σ H Q
theorem arp_nil : ArP X F Γ [] [] := fun σ G H Fs E Q q => ⟨_, pa_nil, q _ _ _ (.refl E.gh) .nil⟩
theorem arp_one {ar : Ar} {ars : List Ar} (h : ∀ σ G H Fs, Env F G H σ Γ Fs → ∀ Q : VK, (∀ v G' H', Grow G H G' H' → ArAt F.K G' H' v ar → Q v H') → wE X e σ H Q) (hr : ArP X F Γ es ars) (hs : plainE e = true) : ArP X F Γ (e :: es) (ar :: ars) := fun σ G H Fs E Q q => by
  refine ⟨_, pa_cons pe_w pa_w (star_plain hs _ _), h σ G H Fs E _ fun x G1 H1 w1 r1 => hr σ G1 H1 Fs (E.grow w1) _ fun vs G2 H2 w2 r2 => q _ _ _ (w1.trans w2) (.cons (r1.mono w2.g w2.h) r2)⟩
theorem arp_dat {ars : List Ar} (h : EP X F Γ e d) (hr : ArP X F Γ es ars) (hs : plainE e = true := by rfl) : ArP X F Γ (e :: es) (.dat d :: ars) :=
  arp_one (fun σ G H Fs E Q q => h σ G H Fs E Q fun v G' H' w r => q v G' H' w r) hr hs
theorem arp_lst {ars : List Ar} (h : LP X F Γ e ds) (hr : ArP X F Γ es ars) (hs : plainE e = true := by rfl) : ArP X F Γ (e :: es) (.lst ds :: ars) :=
  arp_one (fun σ G H Fs E Q q => h σ G H Fs E Q fun a vs G' H' w h1 h2 r => q _ G' H' w ⟨a, vs, rfl, h1, h2, r⟩) hr hs
theorem arp_arg {ars : List Ar} {ar : Ar} (C : Cok X M F N sc kk) (h : Sel N Γ x i (.arg ar)) (hv : Vis sc x) (hr : ArP X F Γ es ars) (hd : (x == ("__debug__" : Str)) = false := by decide) (hcd : (x == ("__classdict__" : Str)) = false := by decide) : ArP X F Γ (.Name x px :: es) (ar :: ars) :=
  arp_one (fun σ G H Fs E Q q => by
    obtain ⟨_, v, h1, h2⟩ := E.sl i _ h.k
    exact w_name C h hv h1 (q v G H (.refl E.gh) (h2.mono (.refl _) E.bh)) hd hcd) hr rfl
theorem arp_res {ars : List Ar} {v : V} {r0 : Rs} {r : Ro} (C : Cok X M F N sc kk) (h : Sel N Γ x i (.res v r0)) (hv : Vis sc x) (hi : ∀ G H P, r0.at_ G H v P → r.at_ G H v) (hr : ArP X F Γ es ars) (hd : (x == ("__debug__" : Str)) = false := by decide) (hcd : (x == ("__classdict__" : Str)) = false := by decide) : ArP X F Γ (.Name x px :: es) (.obj r :: ars) :=
  arp_one (fun σ G H Fs E Q q => by
    obtain ⟨h1, h2⟩ := E.sl i _ h.k
    exact w_name C h hv h1 (q v G H (.refl E.gh) (hi _ _ _ h2)) hd hcd) hr rfl
theorem FnA.at_ {R : List Ar → PyData → Prop} {k : Nat} (C : Cok X M F N sc kk) (h : FnA M k x R) : ∃ (f : Addr) (fd : FuncData) (ps : List Str), FnOk X.prog X.w X.K X.mg X.base (L2.CX X.prog X.w) k f fd ps (spP F.K R) ∧ X.mg x = some (.ref f) ∧ PySem.W.keepIn X.K (.ref f) = true ∧ Binds X.K fd ps [] := by
  rw [C.hP, C.hw, C.hK, C.hF, C.hM, C.hb]
  exact h.ex
theorem ep_call {R : List Ar → PyData → Prop} {k : Nat} {ars : List Ar} (C : Cok X M F N sc kk) (h : FnA M k x R) (hk : k ≤ kk) (hg : sc.names.lookup x = some .globalImplicit) (ha : ArP X F Γ (e :: es) ars) (hr : R ars d)
    (pl : plainE e = true := by rfl) (pls : es.all plainE = true := by rfl) (hd : (x == ("__debug__" : Str)) = false := by decide) : EP X F Γ (.Call (.Name x p) (e :: es) [] pos) d := fun σ G H Fs E Q q => by
  obtain ⟨f, fd, ps, h1, h2, h3, h4⟩ := h.at_ C
  refine ⟨_, pe_call h1 (C.room.mono hk) (gl_of C hg) h2 h3 h4 .nil passL pa_w hd (star_plain pl _ _) (back_plain pls), ?_⟩
  refine ha σ G H Fs E _ fun vs G1 H1 w1 r1 => ?_
  rw [List.append_nil]
  exact ⟨G1, ars, d, w1.s, hr, r1, fun v G2 H2 w2 r2 => q v G2 H2 (w1.trans w2) r2⟩
end

/-! ## a def's body -/
structure Bok (X : Cx) : Prop where
  fn : ∀ x, X.fn x = true
  pass : PassesOwn (model X.prog X.w) X.A X.env X.xe
  stk : X.stack = X.env :: X.outer
  fr : X.env.frame = some X.env.locals
theorem Env.done {F : Fr} {G H : Hp} {σ : L2.St} {Γ : List Kd} {Fs : Nat → Addr → Prop} (E : Env F G H σ Γ Fs) : Grow F.G0 F.B G H := ⟨E.g0, E.gh, E.bh, E.go⟩
/-- what is wanted of a pure def's answer -/
def pRt (d : PyData) (F : Fr) : VK := fun v H => ∃ G, Grow F.G0 F.B G H ∧ Rp G v d
def pEnds (F : Fr) (d : PyData) : Ends := { nx := fun _ H => d = .none ∧ ∃ G, Grow F.G0 F.B G H, rt := pRt d F }
theorem join_start {N : List Str} {vs : List V} {i : Nat} : (L2.start N vs)[i]?.join = vs[i]? := by
  unfold L2.start
  by_cases h : i < vs.length
  · rw [List.getElem?_append_left (by simpa using h), List.getElem?_map, List.getElem?_eq_getElem h]; rfl
  · rw [List.getElem?_append_right (by simpa using h), List.getElem?_replicate, List.getElem?_eq_none (by omega)]
    split <;> rfl
theorem env_start {M : Md} {G H : Hp} {N : List Str} {vs : List V} {ars : List Ar} {n : Nat} (e : Ex G H) (h : ArL M.K G H vs ars) (hn : N.length = ars.length + n) : Env ⟨M.K, H, G⟩ G H (L2.start N vs) (ars.map Ar.kd ++ List.replicate n .un) (fun _ _ => False) := by
  refine ⟨e, .refl H, .refl G, fun _ _ => rfl, ?_, fun i k hk => ?_, fun _ _ _ z => z.elim, fun _ _ z => z.elim⟩
  · unfold L2.start
    rw [List.length_append, List.length_map, List.length_replicate, List.length_append, List.length_map, List.length_replicate, h.len]
    omega
  · rw [join_start]
    by_cases hi : i < ars.length
    · rw [List.getElem?_append_left (by simpa using hi), List.getElem?_map, List.getElem?_eq_getElem hi] at hk
      obtain rfl := Option.some.inj hk
      obtain ⟨v, h1, h2⟩ := h.get (List.getElem?_eq_getElem hi)
      rw [h1]
      cases q : ars[i] with
      | dat d => rw [q] at h2; exact ⟨fun _ z => z, v, rfl, h2⟩
      | lst ds => rw [q] at h2; exact ⟨fun _ z => z, v, rfl, h2⟩
      | scr ns => rw [q] at h2; exact ⟨fun _ z => z, v, rfl, h2⟩
      | obj r => rw [q] at h2; exact ⟨fun _ z => z, v, rfl, h2⟩
    · rw [List.getElem?_append_right (by simpa using hi), List.getElem?_replicate] at hk
      split at hk
      · obtain rfl := Option.some.inj hk; exact fun _ z => z
      · cases hk
theorem pure_def {M : Md} {x qual : Str} {st : Stmt} {f : Addr} {fd : FuncData} {N ps : List Str} {k : Nat} {R : List Ar → PyData → Prop} (n : Nat) (Fu : Fun M.K x qual st f fd) (S : FnScope N ps (defScope st)) (hlen : ∀ ars d, R ars d → ars.length = ps.length) (hn : N.length = ps.length + n)
    (body : ∀ (X : Cx) (F : Fr) (σ : L2.St) (ars : List Ar) (d : PyData) (Γ : List Kd), Cok X M F N (defScope st) k → Bok X → R ars d → ars.map Ar.kd ++ List.replicate n .un = Γ → Env F F.G0 F.B σ Γ (fun _ _ => False) → wSs X (defBody st) (pEnds F d) σ F.B) :
    FnOk M.P M.w M.K M.mg M.base (L2.CX M.P M.w) (k + 1) f fd ps (spP M.K R) := by
  refine Fu.okX S (fun vs H Q E h => ?_) (fun cdv A outer s H vs Q E hr h => ?_)
  · obtain ⟨G, ars, d, _, h1, h2, _⟩ := h
    rw [h2.len]; exact hlen ars d h1
  · obtain ⟨G, ars, d, e, h1, h2, q⟩ := h
    have En := env_start (M := M) (N := N) (n := n) e h2 (by rw [hlen ars d h1]; exact hn)
    obtain ⟨t, p, h3⟩ := body ((cxOf (L2.CX M.P M.w) M.P M.w M.K M.mg M.base N qual (defScope st) f cdv A outer s H E).nox) ⟨M.K, H, G⟩ (L2.start N vs) ars d _ ⟨rfl, rfl, rfl, rfl, rfl, rfl, rfl, rfl, S.nd, rfl, hr⟩ ⟨fun _ => rfl, PassesOwn.never, rfl, rfl⟩ h1 rfl En
    refine ⟨fun D σ H' => t (pEnds ⟨M.K, H, G⟩ d) σ H' ∧ D = { nx := fun _ H' => Q .non H', rt := Q }, ⟨fun pins s1 σ1 H1 D I hw => ?_⟩, h3, rfl⟩
    obtain ⟨hw, rfl⟩ := hw
    refine thn (p.nox.run pins s1 σ1 H1 _ I hw) fun fl s2 hq => ?_
    cases fl with
    | next =>
      obtain ⟨σ', H', I', rfl, G', w⟩ := hq
      exact ⟨σ', H', I', q _ _ _ w .non⟩
    | ret u =>
      obtain ⟨v, σ', H', I', r, G', w, rv⟩ := hq
      exact ⟨v, σ', H', I', r, q _ _ _ w rv⟩
    | brk => exact hq
    | cont => exact hq

/-! ## statements -/
section
variable {X : Cx} {M : Md} {F : Fr} {N : List Str} {sc scope : Scope} {kk : Nat} {Γ : List Kd} {e a b c elt src : Expr} {es ifs : List Expr} {rest body : List Stmt} {st : Stmt} {D : Ends} {σ : L2.St} {G H : Hp} {Fs : Nat → Addr → Prop} {d da db : PyData} {ds : List PyData} {p pos px : Pos} {x y : Str} {i j : Nat} {k k2 : Kd}
theorem ws_nil (q : D.nx σ H) : wSs X [] D σ H := ⟨_, pss_nil, q⟩
theorem ws_cons (q : wS X st { D with nx := fun σ H => wSs X rest D σ H } σ H) : wSs X (st :: rest) D σ H := ⟨_, pss_cons ps_w pss_w, q⟩
theorem Cok.loc (C : Cok X M F N sc kk) (h : Loc sc x) : Loc X.env.scope x := by rw [C.hs]; exact h
def noComp : Expr → Bool
  | .ListComp .. => false
  | .SetComp .. => false
  | .DictComp .. => false
  | _ => true
theorem sw_no {e : Expr} (h : noComp e = true) (t : Option Expr) (l : Nat) (env : PySem.Env) : swapsWith e t l env = pure false := by
  cases e <;> first | rfl | cases h
theorem ws_set (C : Cok X M F N sc kk) (B : Bok X) (E : Env F G H σ Γ Fs) (hx : Sel N Γ x i k) (hd : k.dry = true) (hl : Loc sc x) (h : EP X F Γ e d) {Γ' : List Kd} (hΓ : Γ.set i (.val d) = Γ') (q : ∀ σ' G' H', Env F G' H' σ' Γ' Fs → wSs X rest D σ' H') (hc : noComp e = true := by rfl) :
    wSs X (.Assign [.Name x px] e pos :: rest) D σ H := by
  subst hΓ
  refine ws_cons ⟨_, ps_set (by rw [C.hN]; exact C.nd) (by rw [C.hN]; exact hx.n) (C.loc hl) pe_w (sw_no hc _ _ _) (.inl (B.fn x)), ?_⟩
  exact h σ G H Fs E _ fun v G1 H1 w1 r1 => q _ G1 H1 ((E.grow w1).putD hx.k hd (kat_val r1))
/-- a new list under a name: it may be changed -/
theorem ws_own (C : Cok X M F N sc kk) (B : Bok X) (E : Env F G H σ Γ Fs) (hx : Sel N Γ x i k) (hd : k.dry = true) (hl : Loc sc x) (h : NP X F Γ e ds) {Γ' : V → List Kd} (hΓ : ∀ v, Γ.set i (.own v ds) = Γ' v) (q : ∀ v σ' G' H' Fs', Env F G' H' σ' (Γ' v) Fs' → wSs X rest D σ' H') (hc : noComp e = true := by rfl) :
    wSs X (.Assign [.Name x px] e pos :: rest) D σ H := by
  obtain rfl : (fun v => Γ.set i (.own v ds)) = Γ' := funext hΓ
  refine ws_cons ⟨_, ps_set (by rw [C.hN]; exact C.nd) (by rw [C.hN]; exact hx.n) (C.loc hl) pe_w (sw_no hc _ _ _) (.inl (B.fn x)), ?_⟩
  refine h σ G H Fs E _ fun a vs G1 H1 w1 hn hg h1 hc r1 => q _ _ G1 H1 _ ((E.grow w1).put (v := some (.ref a)) (P := fun b => b = a) hx.k hd ⟨rfl, a, vs, rfl, fun _ => .rfl, h1, hc, r1⟩ fun b hb => ?_)
  subst hb
  exact ⟨E.bh.none hn, hg, (by rw [h1]; exact fun z => nomatch z), fun j z => (E.fp j _ z).2.2.1 hn⟩
theorem w_lc (C : Cok X M F N sc kk) {tg : Expr} {pos' : Pos} (hl : sc.names.lookup x = some .local) (hx : Sel N Γ x i k) (hk : X.env.scope.kind = .function) (h : CP X F Γ elt tg src ifs scope ds) (E : Env F G H σ Γ Fs) (hln : (px.line == pos.line) = true)
    (hn : (scope.names.any fun (n, k) => n == x && (k == .local || k == .cell)) = false) (hs : ∀ x, foldedSetIterable src X.env x = pure x)
    (q : ∀ a vs G' H', Grow G H G' H' → H a = none → G' a = none → H' a = some (.lst vs) → ds.length ≤ cap → RpL G' vs ds → D.nx (σ.set i (some (.ref a))) H') :
    wS X (.Assign [.Name x px] (.ListComp elt [⟨tg, src, ifs, 0⟩] scope pos) pos') D σ H := by
  obtain ⟨wi, g, tt, te, own, h1, h2, h3, h4, h5, h6⟩ := h σ G H Fs E (fun v H' => D.nx (σ.set i (some v)) H') fun a vs G' H' w1 w2 w3 w4 w5 w6 => q a vs G' H' w1 w2 w3 w4 w5 w6
  exact ⟨_, ps_setLc C.calm (by rw [C.hN]; exact C.nd) (by rw [C.hN]; exact hx.n) (by rw [C.hs]; exact hl) (sw_true hk (by rw [C.hs]; exact hl) hln hn) h1 h2 h3 h4 h5 hs, h6⟩
/-- y = [.. for ..] (y a name that no comprehension reads): it stands still -/
theorem ws_setLc (C : Cok X M F N sc kk) (B : Bok X) (E : Env F G H σ Γ Fs) {tg : Expr} {pos' : Pos} (hx : Sel N Γ x i k) (hd : k.dry = true) (hl : sc.names.lookup x = some .local) (hk : sc.kind = .function) (h : CP X F Γ elt tg src ifs scope ds) (hln : (px.line == pos.line) = true)
    (hn : (scope.names.any fun (n, k) => n == x && (k == .local || k == .cell)) = false) (hs : ∀ x, foldedSetIterable src X.env x = pure x) {Γ' : List Kd} (hΓ : Γ.set i (.val (.list ds)) = Γ') (q : ∀ σ' G' H', Env F G' H' σ' Γ' Fs → wSs X rest D σ' H') :
    wSs X (.Assign [.Name x px] (.ListComp elt [⟨tg, src, ifs, 0⟩] scope pos) pos' :: rest) D σ H := by
  subst hΓ
  refine ws_cons (w_lc C hl hx (by rw [C.hs]; exact hk) h E hln hn hs fun a vs G1 H1 w1 hn hg h1 hc r1 => ?_)
  have w2 := w1.freeze hn hg h1
  exact q _ _ H1 ((E.grow w2).putD hx.k hd (kat_val (.lst upd_same hc (r1.mono (.new hg)))))
theorem ws_ownLc (C : Cok X M F N sc kk) (B : Bok X) (E : Env F G H σ Γ Fs) {tg : Expr} {pos' : Pos} (hx : Sel N Γ x i k) (hd : k.dry = true) (hl : sc.names.lookup x = some .local) (hk : sc.kind = .function) (h : CP X F Γ elt tg src ifs scope ds) (hln : (px.line == pos.line) = true)
    (hn : (scope.names.any fun (n, k) => n == x && (k == .local || k == .cell)) = false) (hs : ∀ x, foldedSetIterable src X.env x = pure x) {Γ' : V → List Kd} (hΓ : ∀ v, Γ.set i (.own v ds) = Γ' v) (q : ∀ v σ' G' H' Fs', Env F G' H' σ' (Γ' v) Fs' → wSs X rest D σ' H') :
    wSs X (.Assign [.Name x px] (.ListComp elt [⟨tg, src, ifs, 0⟩] scope pos) pos' :: rest) D σ H := by
  obtain rfl : (fun v => Γ.set i (.own v ds)) = Γ' := funext hΓ
  refine ws_cons (w_lc C hl hx (by rw [C.hs]; exact hk) h E hln hn hs fun a vs G1 H1 w1 hn hg h1 hc r1 => q _ _ G1 H1 _ ((E.grow w1).put (v := some (.ref a)) (P := fun b => b = a) hx.k hd ⟨rfl, a, vs, rfl, fun _ => .rfl, h1, hc, r1⟩ fun b hb => ?_))
  subst hb
  exact ⟨E.bh.none hn, hg, (by rw [h1]; exact fun z => nomatch z), fun j z => (E.fp j _ z).2.2.1 hn⟩
theorem ws_ret (E : Env F G H σ Γ Fs) (h : EP X F Γ e d) (q : ∀ v G' H', Env F G' H' σ Γ Fs → Rp G' v d → D.rt v H') : wSs X (.Return (some e) pos :: rest) D σ H :=
  ws_cons ⟨_, ps_ret pe_w, h σ G H Fs E _ fun v G1 H1 w1 r1 => q v G1 H1 (E.grow w1) r1⟩
theorem ws_retP {d' : PyData} (E : Env F G H σ Γ Fs) (h : EP X F Γ e d) (he : d = d') (hD : D.rt = pRt d' F := by rfl) : wSs X (.Return (some e) pos :: rest) D σ H :=
  ws_ret E h fun v G' H' E' r => by rw [hD]; exact ⟨G', E'.done, he ▸ r⟩
theorem ws_if {t : Bool} {A B : List Stmt} (E : Env F G H σ Γ Fs) (h : TP_ X F Γ c t) (h1 : t = true → ∀ G' H', Env F G' H' σ Γ Fs → wSs X A { D with nx := fun σ H => wSs X rest D σ H } σ H') (h2 : t = false → ∀ G' H', Env F G' H' σ Γ Fs → wSs X B { D with nx := fun σ H => wSs X rest D σ H } σ H') :
    wSs X (.If c A B pos :: rest) D σ H := by
  refine ws_cons ⟨_, ps_if pt_w pss_w pss_w, h σ G H Fs E _ fun G1 H1 w1 => ?_⟩
  cases t with
  | true => exact iteT (h1 rfl G1 H1 (E.grow w1))
  | false => exact iteF (h2 rfl G1 H1 (E.grow w1))
theorem ws_aug {m n z : Int} {op : Operator} {g : Int → Int → Int} (C : Cok X M F N sc kk) (B : Bok X) (E : Env F G H σ Γ Fs) (hx : Sel N Γ x i (.val (.int m))) (hl : Loc sc x) (h : EP X F Γ e (.int n)) (ho : PIp X op (ipI g)) (hz : g m n = z) {Γ' : List Kd} (hΓ : Γ.set i (.val (.int z)) = Γ') (q : ∀ σ' G' H', Env F G' H' σ' Γ' Fs → wSs X rest D σ' H') :
    wSs X (.AugAssign (.Name x px) op e pos :: rest) D σ H := by
  subst hΓ
  refine ws_cons ⟨_, ps_aug (by rw [C.hN]; exact C.nd) (by rw [C.hN]; exact hx.n) (C.loc hl) pe_w ho (.inl (B.fn x)), ?_⟩
  obtain ⟨_, v, h1, h2⟩ := E.sl i _ hx.k
  obtain rfl := h2.int_inv
  refine ⟨_, join_some h1, h σ G H Fs E _ fun v G1 H1 w1 r1 => ?_⟩
  obtain rfl := r1.int_inv
  subst hz
  exact ⟨m, n, rfl, rfl, q _ G1 H1 ((E.grow w1).putD hx.k rfl (kat_val .int))⟩
theorem few_one {e : Expr} (h : plainE e = true) {cpos : Pos} {env : PySem.Env} : ((backTo cpos (starEach [e] env)).all (fun x => !x.1) && (backToKw cpos (keywordEach [] env)).all (fun x => x.1.isSome) && decide (([e] : List Expr).length + ([] : List Keyword).length + (if ([] : List Keyword).isEmpty then 0 else 1) < 30)) = true := by
  rw [star_plain h]; rfl
/-- xs.append(e) -/
theorem ws_append {v : V} {pa pc : Pos} (C : Cok X M F N sc kk) (E : Env F G H σ Γ Fs) (hx : Sel N Γ x i (.own v ds)) (hv : Vis sc x) (h : EP X F Γ e d) (hlen : ds.length < cap) {Γ' : List Kd} (hΓ : Γ.set i (.own v (ds ++ [d])) = Γ') (q : ∀ G' H' Fs', Env F G' H' σ Γ' Fs' → wSs X rest D σ H')
    (pl : plainE e = true := by rfl) (hb : attributeBase (.Name x px) "append" X.env (eval (.Name x px) X.env) = eval (.Name x px) X.env := by rfl) (hline : (pa.endLine == pc.line) = true := by rfl) (hd : (x == ("__debug__" : Str)) = false := by decide) (hcd : (x == ("__classdict__" : Str)) = false := by decide) :
    wSs X (.Expr (.Call (.Attribute (.Name x px) "append" pa) [e] [] pc) pos :: rest) D σ H := by
  subst hΓ
  refine ws_cons ⟨_, ps_expr (pe_bm PySem.F.plainAttrs_list PySem.F.slot_list_append PySem.F.type_list_append mt_append pe_w (pa_cons pe_w pa_nil (star_plain pl _ _)) hb (few_one pl) hline (star_plain pl _ _) rfl), ?_⟩
  obtain ⟨h1, a, vs, rfl, hP, h3, h4, h5⟩ := E.sl i _ hx.k
  refine w_name C hx hv h1 ?_ hd hcd
  refine ⟨.inl ⟨rfl, vs, .inl (.inl h3)⟩, h σ G H Fs E _ fun v G1 H1 w1 r1 => ?_⟩
  have E1 := E.grow w1
  refine ⟨a, vs, v, rfl, rfl, w1.h _ _ h3, by rw [h5.len]; exact cap_lt hlen, q G1 _ _ (E1.chg hx.k (P := fun b => b = a) ⟨by rw [h1], a, vs ++ [v], rfl, fun _ => .rfl, upd_same, ?_, (h5.mono w1.g).append (.cons r1 .nil)⟩ (fun b hb o ho => ?_) fun b hb => ?_)⟩
  · rw [List.length_append, List.length_singleton]; exact hlen
  · rw [upd_ne fun z => hb ((hP b).mpr z)]; exact ho
  · subst hb; exact ⟨(by rw [upd_same]; exact fun z => nomatch z), .inl ((hP _).mpr rfl)⟩
/-- xs.extend(e) -/
theorem ws_extend {v : V} {pa pc : Pos} {zs : List PyData} (C : Cok X M F N sc kk) (E : Env F G H σ Γ Fs) (hx : Sel N Γ x i (.own v ds)) (hv : Vis sc x) (h : LP X F Γ e zs) (hlen : ds.length + zs.length ≤ cap) {Γ' : List Kd} (hΓ : Γ.set i (.own v (ds ++ zs)) = Γ') (q : ∀ G' H' Fs', Env F G' H' σ Γ' Fs' → wSs X rest D σ H')
    (pl : plainE e = true := by rfl) (hb : attributeBase (.Name x px) "extend" X.env (eval (.Name x px) X.env) = eval (.Name x px) X.env := by rfl) (hline : (pa.endLine == pc.line) = true := by rfl) (hd : (x == ("__debug__" : Str)) = false := by decide) (hcd : (x == ("__classdict__" : Str)) = false := by decide) :
    wSs X (.Expr (.Call (.Attribute (.Name x px) "extend" pa) [e] [] pc) pos :: rest) D σ H := by
  subst hΓ
  refine ws_cons ⟨_, ps_expr (pe_bm PySem.F.plainAttrs_list PySem.F.slot_list_extend PySem.F.type_list_extend mt_extend pe_w (pa_cons pe_w pa_nil (star_plain pl _ _)) hb (few_one pl) hline (star_plain pl _ _) rfl), ?_⟩
  obtain ⟨h1, a, vs, rfl, hP, h3, h4, h5⟩ := E.sl i _ hx.k
  refine w_name C hx hv h1 ?_ hd hcd
  refine ⟨.inl ⟨rfl, vs, .inl (.inl h3)⟩, h σ G H Fs E _ fun b ws G1 H1 w1 hb hc r1 => ?_⟩
  have E1 := E.grow w1
  refine ⟨a, b, vs, ws, rfl, rfl, w1.h _ _ h3, hb, by rw [h5.len, r1.len]; exact cap_le hlen, q G1 _ _ (E1.chg hx.k (P := fun b => b = a) ⟨by rw [h1], a, vs ++ ws, rfl, fun _ => .rfl, upd_same, ?_, (h5.mono w1.g).append r1⟩ (fun b hb o ho => ?_) fun b hb => ?_)⟩
  · rw [List.length_append]; exact hlen
  · rw [upd_ne fun z => hb ((hP b).mpr z)]; exact ho
  · subst hb; exact ⟨(by rw [upd_same]; exact fun z => nomatch z), .inl ((hP _).mpr rfl)⟩
/-- a list under a name stands still from here on -/
theorem Env.freeze {v : V} (E : Env F G H σ Γ Fs) (hi : Γ[i]? = some (.own v ds)) : ∃ G' Fs', Env F G' H σ (Γ.set i (.val (.list ds))) Fs' := by
  obtain ⟨h1, a, vs, rfl, hP, h3, h4, h5⟩ := E.sl i _ hi
  have hi' : i < Γ.length := (List.getElem?_eq_some_iff.mp hi).1
  have ha := E.fp i a ((hP a).mpr rfl)
  have gg : Ex G (upd G a (.lst vs)) := .new ha.2.1
  refine ⟨upd G a (.lst vs), fun j => if j = i then (fun _ => False) else Fs j, fun b o q => ?_, E.bh, E.g0.trans gg, fun b hb => ?_, by rw [List.length_set]; exact E.len, fun j q hj => ?_, fun j l b z1 z2 => ?_, fun j b z => ?_⟩
  · by_cases z : b = a
    · subst z; rw [upd_same] at q; rw [h3]; exact q
    · rw [upd_ne z] at q; exact E.gh _ _ q
  · rw [upd_ne (show b ≠ a from fun z => hb (by rw [z]; exact ha.1))]; exact E.go b hb
  · by_cases z : j = i
    · subst z
      rw [List.getElem?_set_self hi'] at hj
      obtain rfl := Option.some.inj hj
      rw [if_pos rfl]
      exact ⟨fun _ z => z, _, h1, .lst upd_same h4 (h5.mono gg)⟩
    · rw [List.getElem?_set_ne (Ne.symm z)] at hj
      rw [if_neg z]
      exact (E.sl j q hj).mono gg fun _ _ => rfl
  · by_cases y1 : j = i
    · simp only [y1, if_true] at z1
    · by_cases y2 : l = i
      · simp only [y2, if_true] at z2
      · simp only [y1, y2, if_false] at z1 z2; exact E.dis j l b z1 z2
  · by_cases y1 : j = i
    · simp only [y1, if_true] at z
    · simp only [y1, if_false] at z
      have f := E.fp j b z
      refine ⟨f.1, ?_, f.2.2.1, by rw [List.length_set]; exact f.2.2.2⟩
      rw [upd_ne]
      · exact f.2.1
      · intro w; exact y1 (E.dis j i b z ((hP b).mpr w))
theorem ws_freeze {v : V} {sts : List Stmt} (E : Env F G H σ Γ Fs) (hx : Kx Γ i (.own v ds)) {Γ' : List Kd} (hΓ : Γ.set i (.val (.list ds)) = Γ') (q : ∀ G' Fs', Env F G' H σ Γ' Fs' → wSs X sts D σ H) : wSs X sts D σ H := by
  subst hΓ
  obtain ⟨G', Fs', E'⟩ := E.freeze hx.kd
  exact q G' Fs' E'
end
end Rn

namespace Rn
open PySem PySem.Spec PyProof.Rows L2

/-! ## loops -/
/-- what stood still at G1 goes on standing still -/
abbrev Fr.pin (F : Fr) (G1 : Hp) : Fr := ⟨F.K, F.B, G1⟩
def RtMono (Rt : Fr → VK) : Prop := ∀ (F : Fr) (G1 : Hp), Ex F.G0 G1 → (∀ a, F.B a ≠ none → G1 a = F.G0 a) → ∀ v H, Rt (F.pin G1) v H → Rt F v H
theorem pRt_mono {d : PyData} : RtMono (pRt d) := fun F G1 g o v H ⟨G, w, r⟩ => ⟨G, ⟨g.trans w.g, w.s, w.h, fun a h => (w.o a h).trans (o a h)⟩, r⟩
section
variable {X : Cx} {M : Md} {F : Fr} {N : List Str} {sc scope : Scope} {kk : Nat} {Γ : List Kd} {e a b c elt src : Expr} {es ifs : List Expr} {rest body : List Stmt} {st : Stmt} {D : Ends} {σ : L2.St} {G H : Hp} {Fs : Nat → Addr → Prop} {d da db : PyData} {ds : List PyData} {p pos px : Pos} {x y : Str} {i j : Nat} {k k2 : Kd}
theorem Cok.pin {G1 : Hp} (C : Cok X M F N sc kk) : Cok X M (F.pin G1) N sc kk := ⟨C.hP, C.hw, C.hK, C.hF, C.hM, C.hb, C.hN, C.hs, C.nd, C.calm, C.room⟩
theorem Env.pin {σ' : L2.St} {Γ' : List Kd} {Fs' : Nat → Addr → Prop} {G1 H1 G' H' : Hp} (E : Env F G1 H1 σ Γ Fs) (E' : Env F G' H' σ' Γ' Fs') (g : Ex G1 G') : Env (F.pin G1) G' H' σ' Γ' Fs' :=
  ⟨E'.gh, E'.bh, g, fun a h => (E'.go a h).trans (E.go a h).symm, E'.len, E'.sl, E'.dis, E'.fp⟩
theorem Env.unpin {σ' : L2.St} {Γ' : List Kd} {Fs' : Nat → Addr → Prop} {G1 H1 G' H' : Hp} (E : Env F G1 H1 σ Γ Fs) (E' : Env (F.pin G1) G' H' σ' Γ' Fs') : Env F G' H' σ' Γ' Fs' :=
  ⟨E'.gh, E'.bh, E.g0.trans E'.g0, fun a h => (E'.go a h).trans (E.go a h), E'.len, E'.sl, E'.dis, E'.fp⟩
/-- somewhere with names as J says -/
def Nx (F : Fr) (J : List Kd → Prop) (σ : L2.St) (H : Hp) : Prop := ∃ G Γ Fs, Env F G H σ Γ Fs ∧ J Γ
def plainIt : Expr → Bool
  | .Set .. => false
  | _ => true
theorem fold_no {e : Expr} (h : plainIt e = true) (env : PySem.Env) (x : Value) : foldedSetIterable e env x = pure x := by
  cases e <;> first | rfl | cases h
theorem passB (B : Bok X) : PassesOwn (model X.prog X.w) X.A X.env X.xe := B.pass
theorem pg_nm (C : Cok X M F N sc kk) (B : Bok X) (hx : N[i]? = some x) (hl : Loc sc x) : PG X (.Name x px) (gName i) := pg_name (by rw [C.hN]; exact C.nd) (by rw [C.hN]; exact hx) (C.loc hl) (.inl (B.fn x))
/-- the ends of a loop's body: J behind a turn, JB at a break -/
def loopE (F : Fr) (Rt : Fr → VK) (J JB : List Kd → Prop) : Ends := { nx := Nx F J, rt := Rt F, bk := Nx F JB, ct := Nx F J }
theorem wSs_mono {D D' : Ends} {sts : List Stmt} (h : wSs X sts D σ H) (h1 : ∀ σ H, D.nx σ H → D'.nx σ H) (h2 : ∀ v H, D.rt v H → D'.rt v H) (h3 : ∀ σ H, D.bk σ H → D'.bk σ H) (h4 : ∀ σ H, D.ct σ H → D'.ct σ H) : wSs X sts D' σ H := by
  obtain ⟨t, p, q⟩ := h
  refine ⟨fun E σ H => t D σ H ∧ E = D', ⟨fun pins s σ1 H1 D1 I hw => ?_⟩, q, rfl⟩
  obtain ⟨hw, rfl⟩ := hw
  refine thn (p.run pins s σ1 H1 _ I hw) fun fl s2 hq => ?_
  cases fl with
  | next => obtain ⟨σ', H', I', z⟩ := hq; exact ⟨σ', H', I', h1 _ _ z⟩
  | ret u => obtain ⟨v, σ', H', I', r, z⟩ := hq; exact ⟨v, σ', H', I', r, h2 _ _ z⟩
  | brk => obtain ⟨σ', H', I', z⟩ := hq; exact ⟨σ', H', I', h3 _ _ z⟩
  | cont => obtain ⟨σ', H', I', z⟩ := hq; exact ⟨σ', H', I', h4 _ _ z⟩

/-- for x in (a list that stands still) -/
theorem ws_for {α : Type} {f : α → PyData} {xs : List α} (Rt : Fr → VK) (J : Nat → List Kd → Prop) (JB : List Kd → Prop) (C : Cok X M F N sc kk) (B : Bok X) (E : Env F G H σ Γ Fs) (hx : N[i]? = some x) (hl : Loc sc x) (hs : EP X F Γ src (.list (xs.map f))) (hR : RtMono Rt) (hD : D.rt = Rt F)
    (hJ : ∀ j Γ', J j Γ' → ∃ k, Γ'[i]? = some k ∧ k.dry = true) (h0 : J 0 Γ)
    (hb : ∀ G1, Cok X M (F.pin G1) N sc kk → ∀ j y Γ', xs[j]? = some y → J j Γ' → ∀ σ G H Fs, Env (F.pin G1) G H σ (Γ'.set i (.val (f y))) Fs → wSs X body (loopE (F.pin G1) Rt (J (j + 1)) JB) σ H)
    (he : ∀ Γ', J xs.length Γ' ∨ JB Γ' → ∀ σ G H Fs, Env F G H σ Γ' Fs → wSs X rest D σ H) (hp : plainIt src = true := by rfl) : wSs X (.For (.Name x px) src body [] pos :: rest) D σ H := by
  refine ws_cons ⟨_, ps_for (passB B) C.calm (pi_list pe_w) (pg_nm C B hx hl) pss_w (fold_no hp X.env), ?_⟩
  refine hs σ G H Fs E _ fun v G1 H1 w1 r1 => ?_
  obtain ⟨a, vs, rfl, h1, hc, r1⟩ := r1.lst_inv
  refine ⟨a, rfl, ⟨vs, .inl (.inl (w1.s _ _ h1))⟩, ?_⟩
  have el : vs.length = xs.length := by rw [r1.len, List.length_map]
  have E1 := E.grow w1
  refine for_list (xs := vs) (fun j σ H => ∃ G Γ Fs, Env (F.pin G1) G H σ Γ Fs ∧ J j Γ) ⟨G1, Γ, Fs, E1.pin E1 (.refl G1), h0⟩ (fun j σ' H' _ ⟨G', Γ', Fs', E', _⟩ => .inl (.inl (E'.gh _ _ (E'.g0 _ _ h1)))) (fun j v σ' H' hv ⟨G', Γ', Fs', E', hj⟩ => ?_) fun σ' H' ⟨G', Γ', Fs', E', hj⟩ => ?_
  · obtain ⟨dv, hdv, rv⟩ := r1.get' hv
    rw [List.getElem?_map] at hdv
    cases hy : xs[j]? with
    | none => rw [hy] at hdv; cases hdv
    | some y =>
      rw [hy] at hdv
      obtain rfl := Option.some.inj hdv
      obtain ⟨k, hk, hd⟩ := hJ j Γ' hj
      refine wSs_mono (hb G1 C.pin j y Γ' hy hj _ G' H' Fs' (E'.putD hk hd (kat_val (rv.mono E'.g0)))) (fun _ _ z => z) (fun v H z => ?_) (fun σ2 H2 ⟨G2, Γ2, Fs2, E2, z⟩ => he Γ2 (.inr z) σ2 G2 H2 Fs2 (E1.unpin E2)) (fun _ _ z => z)
      show D.rt v H
      rw [hD]
      exact hR F G1 E1.g0 E1.go v H z
  · rw [el] at hj
    exact he Γ' (.inl hj) σ' G' H' Fs' (E1.unpin E')
/-- for x in range(n) -/
theorem ws_forR {n : Int} {pr pc : Pos} (J : Nat → List Kd → Prop) (JB : List Kd → Prop) (Rt : Fr → VK) (C : Cok X M F N sc kk) (B : Bok X) (E : Env F G H σ Γ Fs) (hx : N[i]? = some x) (hl : Loc sc x) (hm : M.mg "range" = none) (hg : sc.names.lookup ("range" : Str) = some .globalImplicit) (hs : EP X F Γ e (.int n)) (h1 : -100000 ≤ n) (h2 : n ≤ 100000) (hD : D.rt = Rt F)
    (hJ : ∀ j Γ', J j Γ' → ∃ k, Γ'[i]? = some k ∧ k.dry = true) (h0 : J 0 Γ)
    (hb : ∀ j Γ', j < n.toNat → J j Γ' → ∀ σ G H Fs, Env F G H σ (Γ'.set i (.val (.int (j : Int)))) Fs → wSs X body (loopE F Rt (J (j + 1)) JB) σ H)
    (he : ∀ Γ', J n.toNat Γ' ∨ JB Γ' → ∀ σ G H Fs, Env F G H σ Γ' Fs → wSs X rest D σ H) (pl : plainE e = true := by rfl) : wSs X (.For (.Name x px) (.Call (.Name "range" pr) [e] [] pc) body [] pos :: rest) D σ H := by
  refine ws_cons ⟨_, ps_for (passB B) C.calm (pi_range1 (gl_of C hg) (C.mgn hm) (pa_cons pe_w pa_nil (star_plain pl _ _)) (by rw [star_plain pl]; rfl)) (pg_nm C B hx hl) pss_w (fold_no rfl X.env), ?_⟩
  refine hs σ G H Fs E _ fun v G1 H1 w1 r1 => ?_
  obtain rfl := r1.int_inv
  refine ⟨n, rfl, by omega, by omega, ?_⟩
  refine for_range (fun j σ H => Nx F (J j) σ H) ⟨G1, Γ, Fs, E.grow w1, h0⟩ (fun j σ' H' hj ⟨G', Γ', Fs', E', hJj⟩ => ?_) fun σ' H' ⟨G', Γ', Fs', E', hj⟩ => he Γ' (.inl hj) σ' G' H' Fs' E'
  obtain ⟨k, hk, hd⟩ := hJ j Γ' hJj
  rw [Int.zero_add]
  refine wSs_mono (hb j Γ' hj hJj _ G' H' Fs' (E'.putD hk hd (kat_val .int))) (fun _ _ z => z) (fun v H z => ?_) (fun σ2 H2 ⟨G2, Γ2, Fs2, E2, z⟩ => he Γ2 (.inr z) σ2 G2 H2 Fs2 E2) (fun _ _ z => z)
  show D.rt v H
  rw [hD]
  exact z
/-- while c: J m holds ahead of each test, m falls -/
theorem ws_while (J : Nat → List Kd → Prop) (JB : List Kd → Prop) (Rt : Fr → VK) (C : Cok X M F N sc kk) (B : Bok X) (E : Env F G H σ Γ Fs) (hD : D.rt = Rt F) (m0 : Nat) (h0 : J m0 Γ)
    (hb : ∀ m Γ', J m Γ' → ∃ t, TP_ X F Γ' c t ∧ (t = true → ∀ σ G H Fs, Env F G H σ Γ' Fs → wSs X body (loopE F Rt (fun Γ2 => ∃ m', m' < m ∧ J m' Γ2) JB) σ H) ∧ (t = false → ∀ σ G H Fs, Env F G H σ Γ' Fs → wSs X rest D σ H))
    (he : ∀ Γ', JB Γ' → ∀ σ G H Fs, Env F G H σ Γ' Fs → wSs X rest D σ H) : wSs X (.While c body [] pos :: rest) D σ H := by
  refine ws_cons ⟨_, ps_while (passB B) pt_w pss_w, ?_⟩
  refine ⟨fun m σ H => Nx F (J m) σ H, ⟨m0, G, Γ, Fs, E, h0⟩, fun m σ' H' ⟨G', Γ', Fs', E', hj⟩ => ?_⟩
  obtain ⟨t, ht, hb1, hb2⟩ := hb m Γ' hj
  refine ht σ' G' H' Fs' E' _ fun G1 H1 w1 => ?_
  cases t with
  | false => exact iteF (hb2 rfl σ' G1 H1 Fs' (E'.grow w1))
  | true =>
    refine iteT ⟨Nx F (fun Γ2 => ∃ m', m' < m ∧ J m' Γ2), fun σ2 H2 ⟨G2, Γ2, Fs2, E2, m', hm, z⟩ => ⟨m', hm, G2, Γ2, Fs2, E2, z⟩, ?_⟩
    refine wSs_mono (hb1 rfl σ' G1 H1 Fs' (E'.grow w1)) (fun _ _ z => z) (fun v H z => ?_) (fun σ2 H2 ⟨G2, Γ2, Fs2, E2, z⟩ => he Γ2 z σ2 G2 H2 Fs2 E2) (fun _ _ z => z)
    show D.rt v H
    rw [hD]
    exact z
/-- an if, its two ways joined -/
theorem ws_ifJ {t : Bool} {A B : List Stmt} (J : List Kd → Prop) (E : Env F G H σ Γ Fs) (h : TP_ X F Γ c t) (h1 : t = true → ∀ G' H', Env F G' H' σ Γ Fs → wSs X A { D with nx := Nx F J } σ H') (h2 : t = false → ∀ G' H', Env F G' H' σ Γ Fs → wSs X B { D with nx := Nx F J } σ H')
    (hj : ∀ Γ', J Γ' → ∀ σ G H Fs, Env F G H σ Γ' Fs → wSs X rest D σ H) : wSs X (.If c A B pos :: rest) D σ H :=
  ws_if E h (fun z G' H' E' => wSs_mono (h1 z G' H' E') (fun σ H ⟨G, Γ, Fs, E, z⟩ => hj Γ z σ G H Fs E) (fun _ _ z => z) (fun _ _ z => z) (fun _ _ z => z)) (fun z G' H' E' => wSs_mono (h2 z G' H' E') (fun σ H ⟨G, Γ, Fs, E, z⟩ => hj Γ z σ G H Fs E) (fun _ _ z => z) (fun _ _ z => z) (fun _ _ z => z))
theorem ws_pass {pp : Pos} (q : wSs X rest D σ H) : wSs X (.Pass pp :: rest) D σ H := ws_cons ⟨_, ps_pass, q⟩
theorem ws_break (q : D.bk σ H) : wSs X (.Break p :: rest) D σ H := ws_cons ⟨_, ps_break, q⟩
theorem ws_cont (q : D.ct σ H) : wSs X (.Continue p :: rest) D σ H := ws_cons ⟨_, ps_continue, q⟩
end
end Rn

namespace Rn
open PySem PySem.Spec PyProof.Rows L2

/-! ## set(xs) of a list of hin, to be sorted -/
section
variable {P : Program} {w : World} {A : Around} {E : Value → Shared → Prop} {s : Shared}
abbrev sO (w : World) : Obj := { cls := .type "set", dict := none, data := .set #[] 0 (.fresh 0 0 (!w.params.followText "set-order")) }
theorem set_of_list {l : Addr} {its : Array Value} (ns : List Int) {Q : Value → Shared → Prop} (noH : A.handled = none) (isL : s.heap.IsList l its) (hin : IntsAre its.toList ns) (few : ns.length + 1 < scanBound)
    (q : ∀ (g : Heap) (tk c : Nat), SetR w g s.heap.objs.size (fun j => decide (j ∈ ns)) c → c ≤ ns.length → (∀ b o, s.heap.get? b = some o → g.get? b = some o) → Q (.ref s.heap.objs.size) { s with heap := g, toks := tk }) :
    wpAny (model P w) A (call (.type "set") [.ref l]) Q E s := by
  have sz : its.size = ns.length := by have := IntsAre.length hin; rwa [Array.length_toList] at this
  obtain ⟨c, tl, hmro⟩ := F.called_set.mro; have hmade := F.called_set.made; have hsub := F.called_set.sub
  refine wpAny_call (codeAny_of_tree ?_); show wpAny _ _ (callAny (.type "set") _) _ _ _
  refine wpAny_pure ⟨Code.quiet_builtin _ (by decide +kernel), (codeAny_builtin F.entry_type_call ?_)⟩; rw [(Around.under_plain (weight_type_call_type "set" [.ref l] []) rfl)]
  have k1 := F.called_set.notType; have k2 := F.called_set.canCreate; have k3 := (F.typeCall_set_1 (.ref l))
  repeat (any_goals (first | assumption | wp_step))
  refine codeAny_mono (code_set_led1 (.ref l) (E := E) (Q₁ := fun ob t => ob = .ref s.heap.objs.size ∧ t = { s with heap := s.heap.push (sO w) }) ⟨rfl, rfl⟩) fun r t hr => ?_
  cases r with
  | error e => exact hr
  | ok fl =>
    cases fl with
    | ret ob =>
      obtain ⟨rfl, rfl⟩ := hr
      have isO : (s.heap.push (sO w)).get? s.heap.objs.size = some (sO w) := Heap.get?_push_size _ rfl
      have isT : Shared.TypeIs { s with heap := s.heap.push (sO w) } (.ref s.heap.objs.size) "set" := ⟨_, isO, rfl⟩
      have k4 := F.called_set.init.lookup; have k5 := (F.called_set.init.bind (.ref s.heap.objs.size))
      repeat (any_goals (first | assumption | wp_step))
      refine codeAny_mono (codeAny_call_builtin (R := wants (fun z t => z = .none ∧ ∃ g tk c, t = { s with heap := g, toks := tk } ∧ SetR w g s.heap.objs.size (fun j => decide (j ∈ ns)) c ∧ c ≤ ns.length ∧ (∀ b o, s.heap.get? b = some o → g.get? b = some o)) E)
        F.called_set.init.plain F.entry_set_init (check_set_init_1 isT ?_)) fun r2 t2 hr2 => ?_
      · obtain ⟨ol, hol, hcl, nl, hdl⟩ := isL; obtain ⟨oc, od, oo, os⟩ := ol
        simp only at hcl hdl; subst hcl; subst hdl
        have old : (s.heap.push (sO w)).get? l = some { cls := .type "list", dict := od, data := .seq its nl, slots := os } := (Heap.get?_push_of_some _ hol)
        have j1 := F.sub_list_set; have j2 := F.sub_list_frozenset; have j3 : (Value.type "list" == Value.type "dict") = false := by decide
        have isL1 : (s.heap.push (sO w)).IsList l its := ⟨_, old, rfl, nl, rfl⟩
        unfold Builtin.«set.__init__» noKeywords Builtin.Frozenset.updateFrom; generalize hPI : pyIter = PI
        wp_walk
        subst hPI; refine wpAny_pyIter_list isL1 ?_; refine wpAny_bind (wpAny_runValue ?_)
        have lt : l < s.heap.objs.size := Heap.lt_size hol; have noH3 : A.in1.in1.in1.handled = none := by simp [noH]
        have ne : l ≠ (s.heap.push (sO w)).objs.size := by rw [Heap.size_push]; exact (Nat.ne_of_lt (Nat.lt_succ_of_lt lt))
        have nin : s.heap.objs.size ∉ [(s.heap.push (sO w)).objs.size, l] := by
          rw [Heap.size_push]; simp only [List.mem_cons, List.not_mem_nil, or_false, not_or]; exact ⟨Nat.ne_of_lt (Nat.lt_succ_self _), (Nat.ne_of_gt lt)⟩
        have val : ∀ (i : Nat) (v : Value), its[i]? = some v → ∃ k t, ns[i]? = some k ∧ v = .int k t := fun i v hv => by
          have hi : i < ns.length := by rw [← sz]; exact (Array.getElem?_eq_some_iff.mp hv).1
          obtain ⟨t, e⟩ := PyProof.Rows.IntsAre.int_at hin i v (by rw [Array.getElem?_toList]; exact hv)
          exact ⟨ns[i], t, List.getElem?_eq_getElem hi, by rw [e, List.getD_eq_getElem?_getD, List.getElem?_eq_getElem hi]; rfl⟩
        refine set_update_ints ((Walks.list noH3 _ l ne its).toS) s.heap.objs.size nin ns sz few val (its.size - 0) 0 _ (by omega) (Nat.zero_le _) ⟨⟨_, Heap.get?_push_size _ rfl, rfl, rfl⟩, (isL1.push _)⟩ ?z0 ?z1
        case z0 => exact ⟨0, Nat.le_refl 0, setR_new_at (Heap.get?_push_of_some _ isO)⟩
        case z1 =>
          intro t c mv hc hS
          obtain ⟨g, gn, dr, tk, os⟩ := t
          have e1 : gn = s.gens := mv.gens; have e2 : dr = s.drawn := mv.drawn; have e3 : os = s.os := mv.os
          subst e1; subst e2; subst e3; rw [sz] at hc
          show wpAny _ _ _ _ _ _
          refine wpAny_pure ?_
          show wpAny _ _ (ret Value.none) _ _ _
          refine wpAny_pure ⟨rfl, g, tk, c, rfl, hS, hc, fun b o e => ?_⟩
          have b0 : b < s.heap.objs.size := Heap.lt_size e
          refine mv.heap b o ?_ (Heap.get?_push_of_some _ (Heap.get?_push_of_some _ e))
          simp only [List.mem_cons, List.not_mem_nil, or_false, not_or]
          exact ⟨Nat.ne_of_lt b0, by rw [Heap.size_push]; exact (Nat.ne_of_lt (Nat.lt_succ_of_lt b0))⟩
      · cases r2 with
        | error e => exact hr2
        | ok fl2 =>
          cases fl2 with
          | ret r =>
            obtain ⟨rfl, g, tk, c, rfl, hS, hc, hk⟩ := hr2
            repeat (any_goals (first | assumption | wp_step))
            exact q _ _ _ hS hc hk
          | _ => exact hr2.elim
    | _ => exact hr.elim
end

end Rn

namespace Rn
open PySem PySem.Spec PyProof.Rows L2

/-! ## rising lists of ints -/
def insI (x : Int) : List Int → List Int
  | [] => [x]
  | y :: r => if x < y then x :: y :: r else if x = y then y :: r else y :: insI x r
/-- the members, rising -/
def rise (xs : List Int) : List Int := xs.foldr insI []
def Up (xs : List Int) : Prop := xs.Pairwise (· < ·)
theorem mem_insI {x k : Int} : ∀ {l : List Int}, k ∈ insI x l ↔ k = x ∨ k ∈ l
  | [] => by simp [insI]
  | y :: r => by
    unfold insI
    split
    · simp
    · split
      · rename_i h; subst h; simp
      · rw [List.mem_cons, mem_insI (l := r), List.mem_cons]
        constructor
        · rintro (h | h | h)
          · exact .inr (.inl h)
          · exact .inl h
          · exact .inr (.inr h)
        · rintro (h | h | h)
          · exact .inr (.inl h)
          · exact .inl h
          · exact .inr (.inr h)
theorem up_insI {x : Int} : ∀ {l : List Int}, Up l → Up (insI x l)
  | [], _ => by unfold insI; exact List.pairwise_singleton _ _
  | y :: r, h => by
    have h' := List.pairwise_cons.mp h
    unfold insI
    split
    · rename_i hx
      refine List.pairwise_cons.mpr ⟨fun z hz => ?_, h⟩
      rcases List.mem_cons.mp hz with e | e
      · rw [e]; exact hx
      · exact Int.lt_trans hx (h'.1 z e)
    · split
      · exact h
      · rename_i h1 h2
        refine List.pairwise_cons.mpr ⟨fun z hz => ?_, up_insI h'.2⟩
        rcases mem_insI.mp hz with e | e
        · rw [e]; omega
        · exact h'.1 z e
theorem mem_rise {k : Int} : ∀ {xs : List Int}, k ∈ rise xs ↔ k ∈ xs
  | [] => by simp [rise]
  | x :: r => by
    show k ∈ insI x (rise r) ↔ _
    rw [mem_insI, mem_rise (xs := r), List.mem_cons]
theorem up_rise : ∀ (xs : List Int), Up (rise xs)
  | [] => List.Pairwise.nil
  | x :: r => up_insI (up_rise r)
/-- a rising list is told by its members -/
theorem up_ext : ∀ {xs ys : List Int}, Up xs → Up ys → (∀ k, k ∈ xs ↔ k ∈ ys) → xs = ys
  | [], [], _, _, _ => rfl
  | [], y :: ys, _, _, h => absurd ((h y).mpr List.mem_cons_self) (by simp)
  | x :: xs, [], _, _, h => absurd ((h x).mp List.mem_cons_self) (by simp)
  | x :: xs, y :: ys, hx, hy, h => by
    have hx' := List.pairwise_cons.mp hx
    have hy' := List.pairwise_cons.mp hy
    have e : x = y := by
      rcases List.mem_cons.mp ((h x).mp List.mem_cons_self) with z | z
      · exact z
      · rcases List.mem_cons.mp ((h y).mpr List.mem_cons_self) with w | w
        · exact w.symm
        · have := hy'.1 x z; have := hx'.1 y w; omega
    subst e
    rw [up_ext hx'.2 hy'.2 fun k => ?_]
    constructor
    · intro hk
      rcases List.mem_cons.mp ((h k).mp (List.mem_cons_of_mem _ hk)) with z | z
      · have := hx'.1 k hk; omega
      · exact z
    · intro hk
      rcases List.mem_cons.mp ((h k).mpr (List.mem_cons_of_mem _ hk)) with z | z
      · have := hy'.1 k hk; omega
      · exact z
theorem rise_up {xs : List Int} (h : Up xs) : rise xs = xs := up_ext (up_rise xs) h fun _ => mem_rise
theorem insI_len {x : Int} : ∀ {l : List Int}, (insI x l).length ≤ l.length + 1
  | [] => by simp [insI]
  | y :: r => by
    unfold insI
    split
    · simp
    · split
      · simp
      · have := insI_len (x := x) (l := r)
        rw [List.length_cons, List.length_cons]; omega
theorem rise_len : ∀ (xs : List Int), (rise xs).length ≤ xs.length
  | [] => Nat.le_refl _
  | x :: r => by
    have := rise_len r
    have h := insI_len (x := x) (l := rise r)
    show (insI x (rise r)).length ≤ _
    rw [List.length_cons]; omega

theorem cutG_from {α : Type} {xs : List α} {h : Nat} (hh : h ≤ xs.length) : cutG xs (some (h : Int)) none = xs.drop h := by
  unfold cutG
  rw [HT.sIx_nat, HT.sIx_none, Nat.min_eq_left hh]
  exact List.take_of_length_le (by rw [List.length_drop]; omega)
theorem cutG_to {α : Type} {xs : List α} {h : Nat} (hh : h ≤ xs.length) : cutG xs none (some (h : Int)) = xs.take h := by
  unfold cutG
  rw [HT.sIx_nat, HT.sIx_none, Nat.min_eq_left hh, List.drop_zero, Nat.sub_zero]
section
variable {X : Cx}
theorem call_setL (hc : X.calm = true) : CallR X (.type "set") (fun xs H Q => ∃ (a : Addr) (ns : List Int), xs = [.ref a] ∧ SqL X.K H a (ns.map V.int) ∧ ns.length + 1 < scanBound ∧ ∀ p c, H p = none → c ≤ ns.length → Q (.ref p) (upd H p (SetO X.w p (fun j => decide (j ∈ ns)) c))) := by
  intro pins s σ H xs us Q I r h
  obtain ⟨a, ns, rfl, hs, few, q⟩ := h
  obtain ⟨its, rv, hl, hz⟩ := I.list hs
  rw [Vals.ref1 r]
  have hi : IntsAre its ns := ints_of_vals rv
  refine set_of_list ns (I.ok.hd hc) hl.isList (by simpa using hi) few fun g tk c hS hcl hk => ?_
  have hn : H s.heap.objs.size = none := I.hok.fresh (Nat.le_refl _)
  exact ⟨.ref _, upd H s.heap.objs.size (SetO X.w s.heap.objs.size (fun j => decide (j ∈ ns)) c), I.laid (t' := tk) hk (Nat.le_refl _) (setO_new hS), rfl, q _ c hn hcl⟩
end
section
variable {X : Cx} {M : Md} {F : Fr} {N : List Str} {sc : Scope} {kk : Nat} {Γ : List Kd} {e a b c : Expr} {es : List Expr} {d da db : PyData} {ds : List PyData} {p p2 q2 pos : Pos} {x : Str} {i : Nat} {k : Kd}
/-- an item of a list, a tuple of whole numbers -/
theorem ep_ixI {ns : List Int} {j : Int} (ha : LP X F Γ a (ns.map .int)) (hb : EP X F Γ b (.int j)) (h0 : 0 ≤ j) (h1 : j < ns.length) (hs : PlainIx b := by exact fun _ _ => rfl) : EP X F Γ (.Subscript a b pos) (.int (ns.getD j.toNat 0)) := ep_ixM ha hb h0 h1 hs
theorem ep_ixIT {ns : List Int} {j : Int} (ha : EP X F Γ a (.tuple (ns.map .int))) (hb : EP X F Γ b (.int j)) (h0 : 0 ≤ j) (h1 : j < ns.length) (hs : PlainIx b := by exact fun _ _ => rfl) : EP X F Γ (.Subscript a b pos) (.int (ns.getD j.toNat 0)) := ep_ixMT ha hb h0 h1 hs
inductive IntsOf : List PyData → List Int → Prop
  | nil : IntsOf [] []
  | cons {x : Int} {ds : List PyData} {ns : List Int} : IntsOf ds ns → IntsOf (.int x :: ds) (x :: ns)
theorem IntsOf.eq : ∀ {ds : List PyData} {ns : List Int}, IntsOf ds ns → ds = ns.map .int
  | _, _, .nil => rfl
  | _, _, .cons h => by rw [h.eq]; rfl
theorem ep_ixJ {ns : List Int} {j : Int} (ha : LP X F Γ a ds) (hi : IntsOf ds ns) (hb : EP X F Γ b (.int j)) (h0 : 0 ≤ j) (h1 : j < ns.length) (hs : PlainIx b := by exact fun _ _ => rfl) : EP X F Γ (.Subscript a b pos) (.int (ns.getD j.toNat 0)) := by
  rw [hi.eq] at ha
  exact ep_ixM ha hb h0 h1 hs
/-- an item of any list -/
theorem ep_ixG {j : Int} (ha : LP X F Γ a ds) (hb : EP X F Γ b (.int j)) (h0 : 0 ≤ j) (h1 : j < ds.length) (hs : PlainIx b := by exact fun _ _ => rfl) : EP X F Γ (.Subscript a b pos) (ds.getD j.toNat .none) := by
  refine ep_ixL ha hb ?_ hs
  have hj : j.toNat < ds.length := by omega
  unfold atI ixN
  rw [if_pos h0, if_pos h1, List.getD_eq_getElem?_getD, List.getElem?_eq_getElem hj]
  exact List.getElem?_eq_getElem hj
theorem np_lstI {ns : List Int} (h : NP X F Γ e ds) (hi : IntsOf ds ns) : NP X F Γ e (ns.map .int) := by rw [← hi.eq]; exact h
/-- sorted(set(xs)) of whole numbers -/
theorem np_sset (C : Cok X M F N sc kk) (hm : M.mg "sorted" = none) (hm2 : M.mg "set" = none) {ns : List Int} (ha : LP X F Γ a (ns.map .int)) (hl : ns.length < 64) (hg : sc.names.lookup ("sorted" : Str) = some .globalImplicit) (hg2 : sc.names.lookup ("set" : Str) = some .globalImplicit) (pl : plainE a = true := by rfl) :
    NP X F Γ (.Call (.Name "sorted" p) [.Call (.Name "set" p2) [a] [] q2] [] pos) ((rise ns).map .int) := fun σ G H Fs E Q q => by
  refine ⟨_, pe_callB (cr_sortedSet C.calm) (gl_of C hg) (C.mgn hm) (by decide +kernel) (pa_cons (pe_callTy (call_setL C.calm) (gl_of C hg2) (C.mgn hm2) (by decide +kernel) (pa_cons pe_w pa_nil (star_plain pl _ _)) (he := star_plain pl _ _)) pa_nil), ?_⟩
  refine ha σ G H Fs E _ fun a vs G1 H1 w1 h1 hc r1 => ?_
  obtain rfl := r1.ints_inv
  refine ⟨a, ns, rfl, .inl (.inl h1), Nat.lt_of_le_of_lt hl (by decide), fun z c hz hcl => ?_⟩
  refine ⟨z, _, c, rfl, upd_same, by omega, fun ms y hu hm hln hy => ?_⟩
  have e : ms = rise ns := up_ext hu (up_rise ns) fun k => by rw [hm k, mem_rise]; simp
  subst e
  have hy1 : H1 y = none := Ex.none (.new hz) hy
  have g2 : Grow G1 H1 G1 (upd H1 z (SetO X.w z (fun j => decide (j ∈ ns)) c)) := .raw w1.s hz
  have w := w1.trans g2
  refine q y _ G1 _ (w.trans (.raw w.s hy)) (w1.h.none hy1) (w1.s.none hy1) upd_same ?_ (.ints _)
  rw [List.length_map]
  exact Nat.le_trans (rise_len ns) (Nat.le_trans (Nat.le_of_lt hl) (by decide))
/-- isinstance(x, T) of a datum -/
def pyTy : PyData → String
  | .none => "NoneType"
  | .bool _ => "bool"
  | .int _ => "int"
  | .str _ => "str"
  | .list _ => "list"
  | .tuple _ => "tuple"
  | .dict _ => "dict"
theorem Rp.ty {K : PySem.W.Frag} {G H : Hp} {v : V} {d : PyData} (e : Ex G H) (h : Rp G v d) : TyX K H v (.type (pyTy d)) := by
  cases h with
  | non => exact .base .non
  | bl => exact .base (.bl _)
  | int => exact .base (.int _)
  | str => exact .base (.str _)
  | lst h _ _ => exact .base (.lst (e _ _ h))
  | tup h _ _ => exact .base (.tup (e _ _ h))
theorem ep_isi {T : Str} {Tn : String} {t : Bool} (C : Cok X M F N sc kk) (hm : M.mg "isinstance" = none) (hmT : M.mg T = none) (ha : EP X F Γ a d) (hT : bootBuiltins T = some (.type Tn)) (hb : kitB (pyTy d) Tn = some t)
    (hg : sc.names.lookup ("isinstance" : Str) = some .globalImplicit) (hg2 : sc.names.lookup T = some .globalImplicit) (pl : plainE a = true := by rfl) (hn : T ≠ "__name__" := by decide) (hd : (T == ("__debug__" : Str)) = false := by decide) :
    EP X F Γ (.Call (.Name "isinstance" p) [a, .Name T p2] [] pos) (.bool t) := fun σ G H Fs E Q q => by
  refine ⟨_, pe_callB call_isi (gl_of C hg) (C.mgn hm) (by decide +kernel) (pa_cons pe_w (pa_cons (pe_bltn (v := .ty Tn) (gl_of C hg2) (C.mgn hmT) hT rfl hn hd) pa_nil) (star_plain pl _ _)) (he := star_plain pl _ _), ?_⟩
  refine ha σ G H Fs E _ fun v G1 H1 w1 r1 => ?_
  exact ⟨v, .ty Tn, .type (pyTy d), .type Tn, t, rfl, .ty Tn, r1.ty w1.s, kit_ty hb, q _ _ _ w1 .bl⟩
theorem bt_int : bootBuiltins "int" = some (.type "int") := by decide +kernel
theorem bt_bool : bootBuiltins "bool" = some (.type "bool") := by decide +kernel
theorem bt_list : bootBuiltins "list" = some (.type "list") := by decide +kernel
theorem bt_tuple : bootBuiltins "tuple" = some (.type "tuple") := by decide +kernel
theorem bt_str : bootBuiltins "str" = some (.type "str") := by decide +kernel
def dInt : PyData → Bool
  | .int _ => true
  | .bool _ => true
  | _ => false
def dBool : PyData → Bool
  | .bool _ => true
  | _ => false
def dLst : PyData → Bool
  | .list _ => true
  | _ => false
def dTup : PyData → Bool
  | .tuple _ => true
  | _ => false
def dStr : PyData → Bool
  | .str _ => true
  | _ => false
theorem ep_is_int (C : Cok X M F N sc kk) (hm : M.mg "isinstance" = none) (hmT : M.mg "int" = none) (ha : EP X F Γ a d) (hg : sc.names.lookup ("isinstance" : Str) = some .globalImplicit) (hg2 : sc.names.lookup ("int" : Str) = some .globalImplicit) (pl : plainE a = true) :
    EP X F Γ (.Call (.Name "isinstance" p) [a, .Name "int" p2] [] pos) (.bool (dInt d)) :=
  ep_isi C hm hmT ha bt_int (by cases d <;> (dsimp only [pyTy, dInt, dBool, dLst, dTup, dStr]; decide +kernel)) hg hg2 pl (by decide +kernel) (by decide +kernel)
theorem ep_is_bool (C : Cok X M F N sc kk) (hm : M.mg "isinstance" = none) (hmT : M.mg "bool" = none) (ha : EP X F Γ a d) (hg : sc.names.lookup ("isinstance" : Str) = some .globalImplicit) (hg2 : sc.names.lookup ("bool" : Str) = some .globalImplicit) (pl : plainE a = true) :
    EP X F Γ (.Call (.Name "isinstance" p) [a, .Name "bool" p2] [] pos) (.bool (dBool d)) :=
  ep_isi C hm hmT ha bt_bool (by cases d <;> (dsimp only [pyTy, dInt, dBool, dLst, dTup, dStr]; decide +kernel)) hg hg2 pl (by decide +kernel) (by decide +kernel)
theorem ep_is_list (C : Cok X M F N sc kk) (hm : M.mg "isinstance" = none) (hmT : M.mg "list" = none) (ha : EP X F Γ a d) (hg : sc.names.lookup ("isinstance" : Str) = some .globalImplicit) (hg2 : sc.names.lookup ("list" : Str) = some .globalImplicit) (pl : plainE a = true) :
    EP X F Γ (.Call (.Name "isinstance" p) [a, .Name "list" p2] [] pos) (.bool (dLst d)) :=
  ep_isi C hm hmT ha bt_list (by cases d <;> (dsimp only [pyTy, dInt, dBool, dLst, dTup, dStr]; decide +kernel)) hg hg2 pl (by decide +kernel) (by decide +kernel)
theorem ep_is_tuple (C : Cok X M F N sc kk) (hm : M.mg "isinstance" = none) (hmT : M.mg "tuple" = none) (ha : EP X F Γ a d) (hg : sc.names.lookup ("isinstance" : Str) = some .globalImplicit) (hg2 : sc.names.lookup ("tuple" : Str) = some .globalImplicit) (pl : plainE a = true) :
    EP X F Γ (.Call (.Name "isinstance" p) [a, .Name "tuple" p2] [] pos) (.bool (dTup d)) :=
  ep_isi C hm hmT ha bt_tuple (by cases d <;> (dsimp only [pyTy, dInt, dBool, dLst, dTup, dStr]; decide +kernel)) hg hg2 pl (by decide +kernel) (by decide +kernel)
theorem ep_is_str (C : Cok X M F N sc kk) (hm : M.mg "isinstance" = none) (hmT : M.mg "str" = none) (ha : EP X F Γ a d) (hg : sc.names.lookup ("isinstance" : Str) = some .globalImplicit) (hg2 : sc.names.lookup ("str" : Str) = some .globalImplicit) (pl : plainE a = true) :
    EP X F Γ (.Call (.Name "isinstance" p) [a, .Name "str" p2] [] pos) (.bool (dStr d)) :=
  ep_isi C hm hmT ha bt_str (by cases d <;> (dsimp only [pyTy, dInt, dBool, dLst, dTup, dStr]; decide +kernel)) hg hg2 pl (by decide +kernel) (by decide +kernel)
theorem FnA.mk' {M : Md} {k : Nat} {x : Str} {R : List Ar → PyData → Prop} {f : Addr} {fd : FuncData} {ps : List Str} (h : FnOk M.P M.w M.K M.mg M.base (L2.CX M.P M.w) k f fd ps (spP M.K R)) (h1 : M.mg x = some (.ref f)) (h2 : PySem.W.keepIn M.K (.ref f) = true) (h3 : Binds M.K fd ps []) : FnA M k x R := ⟨f, fd, ps, h, h1, h2, h3⟩
end
end Rn

namespace Rn
open PySem PySem.Spec PyProof.Rows L2

/-! ## data without truth values: == is = -/
def Nd : Nat → PyData → Prop
  | _, .none => True
  | _, .int _ => True
  | _, .str x => PyData.canLay0 (.str x) = true
  | n + 1, .list ds => ∀ d ∈ ds, Nd n d
  | n + 1, .tuple ds => ∀ d ∈ ds, Nd n d
  | _, _ => False
theorem nd_int {n : Nat} {i : Int} : Nd n (.int i) := by cases n <;> trivial
theorem nd_none {n : Nat} : Nd n .none := by cases n <;> trivial
theorem nd_str {n : Nat} {x : Str} (h : PyData.canLay0 (.str x) = true) : Nd n (.str x) := by cases n <;> exact h
theorem nd_lst {n : Nat} {ds : List PyData} (h : ∀ d ∈ ds, Nd n d) : Nd (n + 1) (.list ds) := h
theorem nd_tup {n : Nat} {ds : List PyData} (h : ∀ d ∈ ds, Nd n d) : Nd (n + 1) (.tuple ds) := h
theorem nd_lmap {n : Nat} {α : Type} {f : α → PyData} {xs : List α} (h : ∀ x, Nd n (f x)) : Nd (n + 1) (.list (xs.map f)) := fun d hd => by
  obtain ⟨x, _, rfl⟩ := List.mem_map.mp hd; exact h x
theorem nd_tmap {n : Nat} {α : Type} {f : α → PyData} {xs : List α} (h : ∀ x, Nd n (f x)) : Nd (n + 1) (.tuple (xs.map f)) := nd_lmap (n := n) h
theorem nd_nil {n : Nat} : ∀ d ∈ ([] : List PyData), Nd n d := fun _ h => nomatch h
theorem nd_cons {n : Nat} {d : PyData} {ds : List PyData} (h : Nd n d) (hr : ∀ d ∈ ds, Nd n d) : ∀ e ∈ d :: ds, Nd n e := fun e he => by
  rcases List.mem_cons.mp he with z | z
  · rw [z]; exact h
  · exact hr e z
theorem all_lay : ∀ {ds : List PyData}, (∀ d ∈ ds, d.canLay0 = true) → PyData.canLayAll0 ds = true
  | [], _ => by rw [PyData.canLayAll0]
  | d :: ds, h => by rw [PyData.canLayAll0, h d List.mem_cons_self, all_lay fun e he => h e (List.mem_cons_of_mem _ he)]; rfl
theorem all_depth {n : Nat} : ∀ {ds : List PyData}, (∀ d ∈ ds, d.depth ≤ n) → PyData.depthAll ds ≤ n
  | [], _ => by rw [PyData.depthAll]; exact Nat.zero_le _
  | d :: ds, h => by
    rw [PyData.depthAll]
    exact Nat.max_le.mpr ⟨h d List.mem_cons_self, all_depth fun e he => h e (List.mem_cons_of_mem _ he)⟩
theorem nd_lay : ∀ {n : Nat} {d : PyData}, Nd n d → d.canLay0 = true ∧ d.depth ≤ n
  | n, .none, _ => ⟨by rw [PyData.canLay0], by rw [PyData.depth]; exact Nat.zero_le _⟩
  | n, .bool _, h => by cases n <;> exact h.elim
  | n, .int _, _ => ⟨by rw [PyData.canLay0], by rw [PyData.depth]; exact Nat.zero_le _⟩
  | n, .str _, h => ⟨by cases n <;> exact h, by rw [PyData.depth]; exact Nat.zero_le _⟩
  | 0, .list _, h => h.elim
  | n + 1, .list ds, h => ⟨by rw [PyData.canLay0]; exact all_lay fun d hd => (nd_lay (h d hd)).1, by rw [PyData.depth]; exact Nat.succ_le_succ (all_depth fun d hd => (nd_lay (h d hd)).2)⟩
  | 0, .tuple _, h => h.elim
  | n + 1, .tuple ds, h => ⟨by rw [PyData.canLay0]; exact all_lay fun d hd => (nd_lay (h d hd)).1, by rw [PyData.depth]; exact Nat.succ_le_succ (all_depth fun d hd => (nd_lay (h d hd)).2)⟩
  | n, .dict _, h => by cases n <;> exact h.elim
theorem nd_shaped {n : Nat} {d : PyData} (h : Nd n d) (hn : n ≤ 64) : SeqAt.shaped d = true := by
  unfold SeqAt.shaped
  rw [(nd_lay h).1, Bool.true_and, decide_eq_true_eq]
  exact Nat.le_trans (nd_lay h).2 hn
mutual
theorem nd_eqv : ∀ {n m : Nat} (d e : PyData), Nd n d → Nd m e → (PyData.eqv d e = true ↔ d = e)
  | n, m, .none, e, _, he => by cases e <;> simp [PyData.eqv]
  | n, m, .bool _, e, hd, _ => by cases n <;> exact hd.elim
  | n, m, .int i, .bool _, _, he => by cases m <;> exact he.elim
  | n, m, .int i, .int j, _, _ => by simp [PyData.eqv]
  | n, m, .int i, .none, _, _ => by simp [PyData.eqv]
  | n, m, .int i, .str _, _, _ => by simp [PyData.eqv]
  | n, m, .int i, .list _, _, _ => by simp [PyData.eqv]
  | n, m, .int i, .tuple _, _, _ => by simp [PyData.eqv]
  | n, m, .int i, .dict _, _, _ => by simp [PyData.eqv]
  | n, m, .str x, e, _, he => by cases e <;> simp [PyData.eqv]
  | n + 1, m + 1, .list xs, .list ys, hd, he => by
    rw [PyData.eqv, nd_eqvs (n := n) (m := m) xs ys hd he]; simp
  | 0, m, .list xs, e, hd, _ => hd.elim
  | n, 0, .list xs, .list ys, _, he => he.elim
  | n, m, .list xs, .none, _, _ => by simp [PyData.eqv]
  | n, m, .list xs, .bool _, _, _ => by simp [PyData.eqv]
  | n, m, .list xs, .int _, _, _ => by simp [PyData.eqv]
  | n, m, .list xs, .str _, _, _ => by simp [PyData.eqv]
  | n, m, .list xs, .tuple _, _, _ => by simp [PyData.eqv]
  | n, m, .list xs, .dict _, _, _ => by simp [PyData.eqv]
  | n + 1, m + 1, .tuple xs, .tuple ys, hd, he => by
    rw [PyData.eqv, nd_eqvs (n := n) (m := m) xs ys hd he]; simp
  | 0, m, .tuple xs, e, hd, _ => hd.elim
  | n, 0, .tuple xs, .tuple ys, _, he => he.elim
  | n, m, .tuple xs, .none, _, _ => by simp [PyData.eqv]
  | n, m, .tuple xs, .bool _, _, _ => by simp [PyData.eqv]
  | n, m, .tuple xs, .int _, _, _ => by simp [PyData.eqv]
  | n, m, .tuple xs, .str _, _, _ => by simp [PyData.eqv]
  | n, m, .tuple xs, .list _, _, _ => by simp [PyData.eqv]
  | n, m, .tuple xs, .dict _, _, _ => by simp [PyData.eqv]
  | n, m, .dict _, e, hd, _ => by cases n <;> exact hd.elim
theorem nd_eqvs : ∀ {n m : Nat} (xs ys : List PyData), (∀ d ∈ xs, Nd n d) → (∀ d ∈ ys, Nd m d) → (PyData.eqvAll xs ys = true ↔ xs = ys)
  | _, _, [], [], _, _ => by simp [PyData.eqvAll]
  | _, _, [], _ :: _, _, _ => by simp [PyData.eqvAll]
  | _, _, _ :: _, [], _, _ => by simp [PyData.eqvAll]
  | n, m, x :: xs, y :: ys, hx, hy => by
    rw [PyData.eqvAll, Bool.and_eq_true, nd_eqv x y (hx x List.mem_cons_self) (hy y List.mem_cons_self), nd_eqvs xs ys (fun d hd => hx d (List.mem_cons_of_mem _ hd)) (fun d hd => hy d (List.mem_cons_of_mem _ hd))]
    simp
end
noncomputable def eqD (d e : PyData) : Bool := @decide (d = e) (Classical.propDecidable (d = e))
theorem eqD_iff {d e : PyData} : eqD d e = true ↔ d = e := by unfold eqD; exact @decide_eq_true_iff _ (Classical.propDecidable (d = e))
theorem eqD_not {d e : PyData} : eqD d e = false ↔ d ≠ e := by unfold eqD; exact @decide_eq_false_iff_not _ (Classical.propDecidable (d = e))
theorem eqD_rfl {d : PyData} : eqD d d = true := eqD_iff.mpr rfl
theorem nd_eq {n m : Nat} {d e : PyData} (h1 : Nd n d) (h2 : Nd m e) : PyData.eqv d e = eqD d e := by
  have := nd_eqv d e h1 h2
  by_cases h : d = e
  · rw [this.mpr h, h, eqD_rfl]
  · rw [eqD_not.mpr h]
    cases q : PyData.eqv d e with
    | false => rfl
    | true => exact absurd (this.mp q) h
section
variable {X : Cx} {M : Md} {F : Fr} {N : List Str} {sc scope : Scope} {kk : Nat} {Γ : List Kd} {e a b c elt src : Expr} {es ifs : List Expr} {rest body : List Stmt} {st : Stmt} {D : Ends} {σ : L2.St} {G H : Hp} {Fs : Nat → Addr → Prop} {d da db d1 d2 : PyData} {ds : List PyData} {p pos px py : Pos} {x y : Str} {i j : Nat} {k k2 : Kd}
theorem do_eqN {n m : Nat} (C : Cok X M F N sc kk) (h1 : Nd n da) (h2 : Nd m db) (hn : n ≤ 64) (hm : m ≤ 64) : DOp X (compareOp .Eq) da db (.bool (eqD da db)) := by
  rw [← nd_eq h1 h2]; exact do_eqD C.room.units (nd_shaped h1 hn) (nd_shaped h2 hm)
theorem do_neN {n m : Nat} (C : Cok X M F N sc kk) (h1 : Nd n da) (h2 : Nd m db) (hn : n ≤ 64) (hm : m ≤ 64) : DOp X (compareOp .NotEq) da db (.bool (!eqD da db)) := by
  rw [← nd_eq h1 h2]; exact do_neD C.room.units (nd_shaped h1 hn) (nd_shaped h2 hm)
/-- lists and tuples joined, as data -/
theorem do_cat {da db : List PyData} (hl : da.length + db.length ≤ cap) : DOp X (binaryOp .Add) (.list da) (.list db) (.list (da ++ db)) := fun G H x y s rx ry Q q => by
  obtain ⟨p, vs, rfl, h1, hc, r1⟩ := rx.lst_inv
  obtain ⟨p2, vs2, rfl, h2, hc2, r2⟩ := ry.lst_inv
  refine ⟨_, op_cat, p, p2, vs, vs2, rfl, rfl, s _ _ h1, s _ _ h2, by rw [r1.len, r2.len]; exact cap_le hl, fun z hz => ?_⟩
  exact q _ _ _ (.new s hz) (.lst upd_same (by rw [List.length_append]; exact hl) ((r1.append r2).mono (.new (s.none hz))))
theorem ep_setTwo {Γ' : List Kd} {d : PyData} (C : Cok X M F N sc kk) (B : Bok X) (E : Env F G H σ Γ Fs) (hx : Sel N Γ x i k) (hd : k.dry = true) (hl : Loc sc x) (hy : Sel N Γ y j k2) (hd2 : k2.dry = true) (hl2 : Loc sc y) (hij : i ≠ j) (h : EP X F Γ e d) (hd' : d = .tuple [d1, d2]) {u : Nat} {pt : Pos} (hc : noComp e = true)
    (hΓ : (Γ.set i (.val d1)).set j (.val d2) = Γ') (q : ∀ σ' G' H', Env F G' H' σ' Γ' Fs → wSs X rest D σ' H') (hst : swappedStores [.Tuple [.Name x px, .Name y py] u pt] e X.env = pure none) (hsw : swapsWithSole [.Tuple [.Name x px, .Name y py] u pt] e pos.line X.env = pure false) :
    wSs X (.Assign [.Tuple [.Name x px, .Name y py] u pt] e pos :: rest) D σ H := by
  subst hΓ hd'
  refine ws_cons ⟨_, ps_asg pe_w (pg_tup C.calm (pgs_cons (pg_nm C B hx.n hl) (pgs_cons (pg_nm C B hy.n hl2) pgs_nil))) hsw hst, ?_⟩
  refine h σ G H Fs E _ fun v G1 H1 w1 r1 => ?_
  obtain ⟨a, vs, rfl, h1, hc, r1⟩ := r1.tup_inv
  cases r1 with
  | cons ra r2 =>
    cases r2 with
    | cons rb r3 =>
      cases r3
      refine ⟨a, _, rfl, .inl (.inl (w1.s _ _ h1)), rfl, _, _, rfl, _, [], rfl, rfl, ?_⟩
      have E1 := (E.grow w1).putD hx.k hd (kat_val ra)
      exact q _ G1 H1 (E1.putD (by rw [List.getElem?_set_ne hij]; exact hy.k) hd2 (kat_val rb))
theorem tp_inI {z : Int} {ns : List Int} (ha : EP X F Γ a (.int z)) (hb : LP X F Γ b (ns.map .int)) (hm : behindInMarks .In b = false) : TP_ X F Γ (.Compare a [.In] [b] pos) (decide (z ∈ ns)) := fun σ G H Fs E Q q => by
  refine ⟨_, pt_cmpR op_in_seq pe_w pe_w hm, ?_⟩
  refine ha σ G H Fs E _ fun x G1 H1 w1 r1 => hb σ G1 H1 Fs (E.grow w1) _ fun p vs G2 H2 w2 h2 hc2 r2 => ?_
  obtain rfl := r1.int_inv
  obtain rfl := r2.ints_inv
  refine ⟨p, _, rfl, .inl (.inl (.inl h2)), rfl, flat_ints, ?_⟩
  rw [if_neg Bool.false_ne_true, inV_ints]
  exact ⟨_, rfl, q _ _ (w1.trans w2)⟩
theorem tp_notInI {z : Int} {ns : List Int} (ha : EP X F Γ a (.int z)) (hb : LP X F Γ b (ns.map .int)) (hm : behindInMarks .NotIn b = false) : TP_ X F Γ (.Compare a [.NotIn] [b] pos) (!decide (z ∈ ns)) := fun σ G H Fs E Q q => by
  refine ⟨_, pt_cmpR op_notIn_seq pe_w pe_w hm, ?_⟩
  refine ha σ G H Fs E _ fun x G1 H1 w1 r1 => hb σ G1 H1 Fs (E.grow w1) _ fun p vs G2 H2 w2 h2 hc2 r2 => ?_
  obtain rfl := r1.int_inv
  obtain rfl := r2.ints_inv
  refine ⟨p, _, rfl, .inl (.inl (.inl h2)), rfl, flat_ints, ?_⟩
  rw [if_pos rfl, inV_ints]
  exact ⟨_, rfl, q _ _ (w1.trans w2)⟩
end
end Rn

namespace Rn
open PySem PySem.Spec PyProof.Rows L2

/-! ## t * 1 is t itself -/
theorem tup_mul_one (l : Addr) (its : Array Value) (n : Nat) (dd : Option Addr) (sl : Array (Option Value)) (u : Tok) :
    Meets (Builtin.«tuple.__mul__» ⟨[.ref l, .int 1 u], []⟩) (fun _ R s => s.heap.get? l = some { cls := .type "tuple", dict := dd, data := .seq its n, slots := sl } ∧ R (.ok (.ret (Value.ref l))) s) :=
  .of_wp fun prog w A R s h => by
    obtain ⟨hp, g, d, tk, os⟩ := s; obtain ⟨hl, h⟩ := h
    have f1 := AutoSeq1.idx_int
    have y1 : (its.isEmpty || (1 : Int) == 1) = true := by simp
    wp_walk using wpAny_loadPart' hl
    repeat (first
      | (refine wpAny_ite_false (decide_eq_false (by decide)) ?_; wp_walk using wpAny_loadPart' hl)
      | (refine wpAny_ite_true (decide_eq_true y1) ?_; wp_walk using wpAny_loadPart' hl))
    exact ⟨_, rfl, h⟩
section
variable {X : Cx}
theorem op_repT1 : OpR X (binaryOp .Mult) (fun x y H Q => ∃ l xs, x = .ref l ∧ y = .int 1 ∧ SqT X.K H l xs ∧ xs ≠ [] ∧ Q (.ref l) H) := by
  intro pins s σ H x y v u Q I rx ry h
  obtain ⟨l, xs, rfl, rfl, hT, hne, q⟩ := h
  cases rx
  obtain ⟨t, rfl⟩ := ry
  obtain ⟨its, r, ⟨⟨cls, dd, data, sl⟩, ho, hc, n, hd⟩, hs⟩ := I.tuple hT
  simp only at hc hd
  subst hc hd
  refine wpAny_binaryOp_repeat_ref (T := "tuple") (U := "int") (by decide) ⟨_, ho, rfl⟩ (fun s' => typeIs_int s' 1 t) noFill_tuple_mul F.fills_int_mul F.slot_int_rmul repeat_tuple F.slot_int_index.lookup
    (call_meets F.slot_int_rmul (typeIs_int s 1 t) F.entry_int_rmul (F.args_int_rmul_2 _ _) (int_rmul_tuple 1 t l its.toArray n dd sl)
      ⟨ho, rfl, ⟨_, ho, rfl⟩, call_meets F.slot_tuple_mul ⟨_, ho, rfl⟩ F.entry_tuple_mul (F.args_tuple_mul_2 _ _) (tup_mul_one l its.toArray n dd sl t) ⟨ho, ?_⟩⟩)
  exact ⟨.ref l, H, I.tok _, rfl, q⟩
end
theorem RpL.flat {G : Hp} {vs : List V} {ds : List PyData} (h : RpL G vs ds) : ∀ n : Nat, RpL G (List.replicate n vs).flatten (List.replicate n ds).flatten
  | 0 => .nil
  | n + 1 => by rw [List.replicate_succ, List.replicate_succ, List.flatten_cons, List.flatten_cons]; exact h.append (h.flat n)
theorem flat_len {α : Type} {xs : List α} : ∀ n : Nat, (List.replicate n xs).flatten.length = n * xs.length
  | 0 => by simp
  | n + 1 => by rw [List.replicate_succ, List.flatten_cons, List.length_append, flat_len n, Nat.succ_mul]; omega
theorem flat_one {α : Type} (x : α) : ∀ n : Nat, (List.replicate n [x]).flatten = List.replicate n x
  | 0 => rfl
  | n + 1 => by rw [List.replicate_succ, List.flatten_cons, flat_one x n]; rfl
section
variable {X : Cx} {M : Md} {F : Fr} {N : List Str} {sc scope : Scope} {kk : Nat} {Γ : List Kd} {e a b c elt src : Expr} {es ifs : List Expr} {rest body : List Stmt} {st : Stmt} {D : Ends} {σ : L2.St} {G H : Hp} {Fs : Nat → Addr → Prop} {d da db d1 d2 : PyData} {ds : List PyData} {p pos px py : Pos} {x y : Str} {i j : Nat} {k k2 : Kd}
/-- t * n, 1 <= n -/
theorem do_repT {n : Int} (h0 : ds ≠ []) (h1 : 1 ≤ n) (h2 : n ≤ 1000) (hl : ds.length ≤ 100) : DOp X (binaryOp .Mult) (.tuple ds) (.int n) (.tuple (List.replicate n.toNat ds).flatten) := fun G H x y s rx ry Q q => by
  obtain ⟨p, vs, rfl, h3, hc, r1⟩ := rx.tup_inv
  obtain rfl := ry.int_inv
  have hv : vs ≠ [] := fun z => h0 (by subst z; cases r1; rfl)
  by_cases e : n = 1
  · subst e
    refine ⟨_, op_repT1, p, vs, rfl, rfl, .inl (.inl (s _ _ h3)), hv, q _ _ _ (.refl s) ?_⟩
    have e1 : (List.replicate (1 : Int).toNat ds).flatten = ds := by show ds ++ [] = ds; rw [List.append_nil]
    rw [e1]
    exact .tup h3 hc r1
  · refine ⟨_, op_repT, p, n, vs, rfl, rfl, .inl (.inl (s _ _ h3)), hv, by omega, h2, by rw [r1.len]; omega, fun z hz => ?_⟩
    refine q _ _ _ (.new s hz) (.tup upd_same ?_ ((r1.flat n.toNat).mono (.new (s.none hz))))
    rw [flat_len]
    have a1 : n.toNat * ds.length ≤ 1000 * 100 := Nat.mul_le_mul (by omega) hl
    unfold cap; omega
theorem do_rep0 {z n : Int} (h1 : 1 ≤ n) (h2 : n ≤ 1000) : DOp X (binaryOp .Mult) (.tuple [.int z]) (.int n) (.tuple ((List.replicate n.toNat z).map .int)) := by
  have h := do_repT (X := X) (ds := [.int z]) (n := n) (by simp) h1 h2 (by simp)
  rw [flat_one] at h
  rw [List.map_replicate]
  exact h
theorem lp_lstI {ns : List Int} (h : AP_ X F Γ es ds) (hi : IntsOf ds ns) (hl : ds.length ≤ cap) : LP X F Γ (.List es pos) (ns.map .int) := by
  rw [← hi.eq]; exact NP.lp (np_lst h hl)
abbrev tupI (xs : List Int) : PyData := .tuple (xs.map .int)
/-- an item of a list of values -/
theorem ep_ixV {xs : List (List Int)} {j : Int} (ha : LP X F Γ a (xs.map tupI)) (hb : EP X F Γ b (.int j)) (h0 : 0 ≤ j) (h1 : j < xs.length) (hs : PlainIx b) : EP X F Γ (.Subscript a b pos) (tupI (xs.getD j.toNat [])) := ep_ixM ha hb h0 h1 hs
abbrev parI (p : List Int × List Int) : PyData := .tuple [.list (p.1.map .int), tupI p.2]
/-- an item of a list of parcels -/
theorem ep_ixQ {xs : List (List Int × List Int)} {j : Int} (ha : LP X F Γ a (xs.map parI)) (hb : EP X F Γ b (.int j)) (h0 : 0 ≤ j) (h1 : j < xs.length) (hs : PlainIx b) : EP X F Γ (.Subscript a b pos) (parI (xs.getD j.toNat ([], []))) := ep_ixM ha hb h0 h1 hs
/-- a list as a test -/
theorem tp_lst (ha : LP X F Γ e ds) (he : ∀ whole, isTrue e X.env whole = (do let v ← whole; standAt e.pos; holding [v] (truthy v))) : TP_ X F Γ e (!ds.isEmpty) := fun σ G H Fs E Q q => by
  refine ⟨_, pt_truth pe_w he, ?_⟩
  refine ha σ G H Fs E _ fun p vs G1 H1 w1 h1 hc r1 => ⟨_, .inl ⟨vs, .inl (.inl h1), ?_⟩, q _ _ w1⟩
  cases r1 <;> rfl
/-- a, b = (a list of two) -/
theorem ep_setTwoL {Γ' : List Kd} {d : PyData} (C : Cok X M F N sc kk) (B : Bok X) (E : Env F G H σ Γ Fs) (hx : Sel N Γ x i k) (hd : k.dry = true) (hl : Loc sc x) (hy : Sel N Γ y j k2) (hd2 : k2.dry = true) (hl2 : Loc sc y) (hij : i ≠ j) (h : EP X F Γ e d) (hd' : d = .list [d1, d2]) {u : Nat} {pt : Pos} (hc : noComp e = true)
    (hΓ : (Γ.set i (.val d1)).set j (.val d2) = Γ') (q : ∀ σ' G' H', Env F G' H' σ' Γ' Fs → wSs X rest D σ' H') (hst : swappedStores [.Tuple [.Name x px, .Name y py] u pt] e X.env = pure none) (hsw : swapsWithSole [.Tuple [.Name x px, .Name y py] u pt] e pos.line X.env = pure false) :
    wSs X (.Assign [.Tuple [.Name x px, .Name y py] u pt] e pos :: rest) D σ H := by
  subst hΓ hd'
  refine ws_cons ⟨_, ps_asg pe_w (pg_lst C.calm (pgs_cons (pg_nm C B hx.n hl) (pgs_cons (pg_nm C B hy.n hl2) pgs_nil))) hsw hst, ?_⟩
  refine h σ G H Fs E _ fun v G1 H1 w1 r1 => ?_
  obtain ⟨a, vs, rfl, h1, hc, r1⟩ := r1.lst_inv
  cases r1 with
  | cons ra r2 =>
    cases r2 with
    | cons rb r3 =>
      cases r3
      refine ⟨a, _, rfl, .inl (.inl (w1.s _ _ h1)), rfl, _, _, rfl, _, [], rfl, rfl, ?_⟩
      have E1 := (E.grow w1).putD hx.k hd (kat_val ra)
      exact q _ G1 H1 (E1.putD (by rw [List.getElem?_set_ne hij]; exact hy.k) hd2 (kat_val rb))
/-- for x in (a list that is an argument) -/
theorem ws_forA {α : Type} {f : α → PyData} {xs : List α} {u : Str} {pu : Pos} {iu : Nat} (Rt : Fr → VK) (J : Nat → List Kd → Prop) (JB : List Kd → Prop) (C : Cok X M F N sc kk) (B : Bok X) (E : Env F G H σ Γ Fs) (hx : N[i]? = some x) (hl : Loc sc x) (hs : Sel N Γ u iu (.arg (.lst (xs.map f)))) (hu : Vis sc u) (hR : RtMono Rt) (hD : D.rt = Rt F)
    (hJ : ∀ j Γ', J j Γ' → ∃ k, Γ'[i]? = some k ∧ k.dry = true) (h0 : J 0 Γ)
    (hb : ∀ G1, Cok X M (F.pin G1) N sc kk → ∀ j y Γ', xs[j]? = some y → J j Γ' → ∀ σ G H Fs, Env (F.pin G1) G H σ (Γ'.set i (.val (f y))) Fs → wSs X body (loopE (F.pin G1) Rt (J (j + 1)) JB) σ H)
    (he : ∀ Γ', J xs.length Γ' ∨ JB Γ' → ∀ σ G H Fs, Env F G H σ Γ' Fs → wSs X rest D σ H) (hd : (u == ("__debug__" : Str)) = false) (hcd : (u == ("__classdict__" : Str)) = false) : wSs X (.For (.Name x px) (.Name u pu) body [] pos :: rest) D σ H := by
  refine ws_cons ⟨_, ps_for (passB B) C.calm (pi_list pe_w) (pg_nm C B hx hl) pss_w (fold_no rfl X.env), ?_⟩
  obtain ⟨_, v, h1, a, vs, rfl, h3, hc, r1⟩ := E.sl iu _ hs.k
  refine w_name C hs hu h1 ?_ hd hcd
  refine ⟨a, rfl, ⟨vs, .inl (.inl (E.bh _ _ h3))⟩, ?_⟩
  have el : vs.length = xs.length := by rw [r1.len, List.length_map]
  refine for_list (xs := vs) (fun j σ H' => ∃ G' Γ Fs, Env (F.pin G) G' H' σ Γ Fs ∧ J j Γ) ⟨G, Γ, Fs, E.pin E (.refl G), h0⟩ (fun j σ' H' _ ⟨G', Γ', Fs', E', _⟩ => .inl (.inl (E'.bh _ _ h3))) (fun j v σ' H' hv ⟨G', Γ', Fs', E', hj⟩ => ?_) fun σ' H' ⟨G', Γ', Fs', E', hj⟩ => ?_
  · obtain ⟨dv, hdv, rv⟩ := r1.get' hv
    rw [List.getElem?_map] at hdv
    cases hy : xs[j]? with
    | none => rw [hy] at hdv; cases hdv
    | some y =>
      rw [hy] at hdv
      obtain rfl := Option.some.inj hdv
      obtain ⟨k, hk, hd⟩ := hJ j Γ' hj
      refine wSs_mono (hb G C.pin j y Γ' hy hj _ G' H' Fs' (E'.putD hk hd (kat_val (rv.mono E'.g0)))) (fun _ _ z => z) (fun v H z => ?_) (fun σ2 H2 ⟨G2, Γ2, Fs2, E2, z⟩ => he Γ2 (.inr z) σ2 G2 H2 Fs2 (E.unpin E2)) (fun _ _ z => z)
      show D.rt v H
      rw [hD]
      exact hR F G E.g0 E.go v H z
  · rw [el] at hj
    exact he Γ' (.inl hj) σ' G' H' Fs' (E.unpin E')
/-- [elt for x, y in zip(s, t)] of two tuples of one length -/
theorem cp_zip {α β : Type} {f : α → PyData} {g : β → PyData} {h : α → β → Int} {xs : List α} {ys : List β} {s t : Expr} {pz pt : Pos} {u : Nat} (C : Cok X M F N sc kk) (hm : M.mg "zip" = none) (hx : Sel N Γ x i k) (hd : k.dry = true) (hy : Sel N Γ y j k2) (hd2 : k2.dry = true) (hij : i ≠ j) (hs : EP X F Γ s (.tuple (xs.map f))) (ht : EP X F Γ t (.tuple (ys.map g))) (hlen : xs.length = ys.length)
    (ok : blkC N sc scope [(x, i), (y, j)] = true) (hl : Loc (relS scope sc) x) (hf : (relS scope sc).names.lookup x = some .local ∨ (scope.names.lookup x == some .cell) = true) (hl2 : Loc (relS scope sc) y) (hf2 : (relS scope sc).names.lookup y = some .local ∨ (scope.names.lookup y == some .cell) = true) (hg : sc.names.lookup ("zip" : Str) = some .globalImplicit) (hp1 : plainE s = true) (hp2 : plainE t = true)
    (hE : ∀ z ∈ xs.zip ys, ∀ s H0 C0 cl fp, Cok (Xblk X scope s H0 C0 cl fp) M F N (relS scope sc) kk → EP (Xblk X scope s H0 C0 cl fp) F ((Γ.set i (.val (f z.1))).set j (.val (g z.2))) elt (.int (h z.1 z.2))) :
    CP X F Γ elt (.Tuple [.Name x px, .Name y py] u pt) (.Call (.Name "zip" pz) [s, t] [] pos) [] scope ((List.zipWith h xs ys).map .int) := fun σ G H Fs E Q q => by
  refine ⟨_, gTup X.K 2 (gCons (gName i) (gCons (gName j) gNil)), tSrc X scope [], eSrc X scope elt, [(x, i), (y, j)], RZ.pi_zipA (gl_of C hg) (C.mgn hm) (pa_cons pe_w (pa_cons pe_w pa_nil (star_plain hp2 _ _)) (star_plain hp1 _ _)) (star_plain hp1 _ _) (back_plain (by rw [List.all_cons, hp2]; rfl)), by rw [C.hN, C.hs]; exact blkOk_by ok, fun s H C0 cl fp => ?_, fun s H C0 cl fp => ⟨fun pins s1 σ H5 Q I h => ?_⟩, fun s H C0 cl fp => ⟨fun pins s1 σ H5 Q I h => ?_⟩, ?_⟩
  · have C' := C.blk (scope := scope) (s := s) (H := H) (C0 := C0) (cl := cl) (fp := fp)
    have one : ∀ {x : Str} {i : Nat} {px : Pos}, N[i]? = some x → Loc (relS scope sc) x → ((relS scope sc).names.lookup x = some .local ∨ (scope.names.lookup x == some .cell) = true) → PG (Xblk X scope s H C0 cl fp) (.Name x px) (gName i) := fun hx hl hf => by
      refine pg_name (by rw [C'.hN]; exact C'.nd) (by rw [C'.hN]; exact hx) (by rw [C'.hs]; exact hl) ?_
      rcases hf with z | z
      · exact .inr (by rw [C'.hs]; exact z)
      · exact .inl z
    exact pg_tup C'.calm (pgs_cons (one hx.n hl hf) (pgs_cons (one hy.n hl2 hf2) pgs_nil))
  · obtain ⟨t, p1, p2⟩ := h s H C0 cl fp
    exact p1.run pins s1 σ _ Q I p2
  · exact pe_w.run pins s1 σ _ Q I (h s H C0 cl fp)
  · refine hs σ G H Fs E _ fun v1 G1 H1 w1 r1 => ht σ G1 H1 Fs (E.grow w1) _ fun v2 G2 H2 w2 r2 => ?_
    obtain ⟨a, vs, rfl, h1, hc, r1⟩ := r1.tup_inv
    obtain ⟨b, ws, rfl, h2, hc2, r2⟩ := r2.tup_inv
    have h1 := w2.g _ _ h1
    have r1 := r1.mono w2.g
    have w := w1.trans w2
    have E2 := E.grow w
    refine ⟨a, b, vs, ws, rfl, .inr ⟨.inl (.inl (w2.s _ _ h1)), .inl (.inl (w2.s _ _ h2)), fun D hD => ?_⟩⟩
    have lv : vs.length = xs.length := by rw [r1.len, List.length_map]
    have lw : ws.length = ys.length := by rw [r2.len, List.length_map]
    have lz : (List.zipWith h xs ys).length = xs.length := by rw [List.length_zipWith, ← hlen, Nat.min_self]
    have hcx : xs.length ≤ cap := by rw [List.length_map] at hc; exact hc
    refine ⟨fun n m H' => m = xs.length - n ∧ n ≤ xs.length ∧ ∃ G', Lcs G2 H2 D (((List.zipWith h xs ys).take n).map .int) G' H', ⟨xs.length, rfl, Nat.zero_le _, G2, Lcs.start w2.s hD⟩, fun n m H' ⟨em, hn, G', L⟩ => ?_⟩
    have sa : SqT X.K H' a vs := .inl (.inl (L.w.s _ _ (L.w.g _ _ h1)))
    have sb : SqT X.K H' b ws := .inl (.inl (L.w.s _ _ (L.w.g _ _ h2)))
    by_cases hlt : n < xs.length
    · have g1 : xs[n]? = some xs[n] := List.getElem?_eq_getElem hlt
      have g2 : ys[n]? = some (ys[n]'(hlen ▸ hlt)) := List.getElem?_eq_getElem _
      obtain ⟨va, hva, ra⟩ := r1.get (i := n) (d := f xs[n]) (by rw [List.getElem?_map, g1]; rfl)
      obtain ⟨vb, hvb, rb⟩ := r2.get (i := n) (d := g (ys[n]'(hlen ▸ hlt))) (by rw [List.getElem?_map, g2]; rfl)
      refine .inr ⟨⟨vs, ws, va, vb, sa, sb, hva, hvb⟩, fun H'' => ∃ G'', Lcs G2 H2 D (((List.zipWith h xs ys).take (n + 1)).map .int) G'' H'', fun H'' ⟨G'', L2⟩ => ⟨m - 1, by omega, by omega, hlt, G'', L2⟩, fun v H'' hy' => ?_⟩
      obtain ⟨T, v1, v2, rfl, nT, rfl, f1, f2⟩ := hy'
      obtain rfl : v1 = va := Option.some.inj ((f1 _ sa).symm.trans hva)
      obtain rfl : v2 = vb := Option.some.inj ((f2 _ sb).symm.trans hvb)
      have LT := L.step hD (Grow.raw (o := .tup [v1, v2]) L.w.s nT)
      refine ⟨T, [v1, v2], rfl, .inl (.inl upd_same), rfl, v1, [v2], rfl, v2, [], rfl, rfl, ?_⟩
      have ew : ((wipe σ (List.map (fun x => x.snd) [(x, i), (y, j)])).set i (some v1)).set j (some v2) = (σ.set i (some v1)).set j (some v2) := by
        show ((((σ.set j none).set i none).set i (some v1)).set j (some v2)) = _
        rw [List.set_set, List.set_comm (l := σ) (i := j) (j := i) _ _ (Ne.symm hij), List.set_set]
      rw [ew]
      have ew2 : wipe ((σ.set i (some v1)).set j (some v2)) (List.map (fun x => x.snd) [(x, i), (y, j)]) = wipe σ (List.map (fun x => x.snd) [(x, i), (y, j)]) := by
        show ((((σ.set i (some v1)).set j (some v2)).set j none).set i none) = ((σ.set j none).set i none)
        rw [List.set_set, List.set_comm (l := σ) (i := i) (j := j) _ _ hij, List.set_set]
      refine ⟨ew2, fun s H0 C0 cl fp => ⟨tYes, pts_nil, ?_⟩⟩
      unfold tYes
      dsimp only
      rw [if_pos rfl]
      intro s H0 C0 cl fp
      have E3 : Env F G' _ ((σ.set i (some v1)).set j (some v2)) ((Γ.set i (.val (f xs[n]))).set j (.val (g (ys[n]'(hlen ▸ hlt))))) Fs :=
        ((E2.grow LT.w).putD hx.k hd (kat_val (ra.mono L.w.g))).putD (by rw [List.getElem?_set_ne hij]; exact hy.k) hd2 (kat_val (rb.mono L.w.g))
      have hz : (xs[n], ys[n]'(hlen ▸ hlt)) ∈ xs.zip ys := by
        refine List.mem_of_getElem? (i := n) ?_
        rw [List.getElem?_zip_eq_some]
        exact ⟨g1, g2⟩
      refine hE _ hz s H0 C0 cl fp C.blk _ G' _ Fs E3 _ fun v3 G3 H3 w3 r3 => ?_
      have L3 := LT.step hD w3
      obtain ⟨acc, h3, rs⟩ := L3.l
      refine ⟨acc, h3, ?_, G3, ?_⟩
      · rw [rs.len, List.length_map, List.length_take, lz]
        exact cap_lt (by omega)
      · have e : (((List.zipWith h xs ys).take (n + 1)).map PyData.int) = (((List.zipWith h xs ys).take n).map PyData.int) ++ [.int (h xs[n] (ys[n]'(hlen ▸ hlt)))] := by
          rw [List.take_add_one, List.getElem?_zipWith, g1, g2, List.map_append]; rfl
        rw [e]
        exact L3.push hD h3 r3
    · refine .inl ⟨⟨vs, ws, sa, sb, .inl (by omega)⟩, ?_⟩
      rw [List.take_of_length_le (by rw [lz]; omega)] at L
      obtain ⟨acc, h3, rs⟩ := L.l
      exact q D acc G' H' (w.trans L.w) (w.h.none hD) L.d h3 (by rw [List.length_map, lz]; exact hcx) rs
/-- [elt for x in (a tuple) if ..] -/
theorem cp_tup {α : Type} {f fE : α → PyData} {pT : α → Bool} {xs : List α} (C : Cok X M F N sc kk) (hx : Sel N Γ x i k) (hd : k.dry = true) (hs : EP X F Γ src (.tuple (xs.map f))) (ok : blkC N sc scope [(x, i)] = true) (hl : Loc (relS scope sc) x) (hf : (relS scope sc).names.lookup x = some .local ∨ (scope.names.lookup x == some .cell) = true)
    (hT : ∀ y ∈ xs, ∀ s H0 C0 cl fp, Cok (Xblk X scope s H0 C0 cl fp) M F N (relS scope sc) kk → TsP (Xblk X scope s H0 C0 cl fp) F (Γ.set i (.val (f y))) ifs (pT y)) (hE : ∀ y ∈ xs, pT y = true → ∀ s H0 C0 cl fp, Cok (Xblk X scope s H0 C0 cl fp) M F N (relS scope sc) kk → EP (Xblk X scope s H0 C0 cl fp) F (Γ.set i (.val (f y))) elt (fE y)) :
    CP X F Γ elt (.Name x px) src ifs scope ((xs.filter pT).map fE) := fun σ G H Fs E Q q => by
  refine ⟨_, gName i, tSrc X scope ifs, eSrc X scope elt, [(x, i)], pi_tup pe_w, by rw [C.hN, C.hs]; exact blkOk_by ok, fun s H C0 cl fp => ?_, fun s H C0 cl fp => ⟨fun pins s1 σ H5 Q I h => ?_⟩, fun s H C0 cl fp => ⟨fun pins s1 σ H5 Q I h => ?_⟩, ?_⟩
  · have C' := C.blk (scope := scope) (s := s) (H := H) (C0 := C0) (cl := cl) (fp := fp)
    refine pg_name (by rw [C'.hN]; exact C'.nd) (by rw [C'.hN]; exact hx.n) (by rw [C'.hs]; exact hl) ?_
    rcases hf with z | z
    · exact .inr (by rw [C'.hs]; exact z)
    · exact .inl z
  · obtain ⟨t, p1, p2⟩ := h s H C0 cl fp
    exact p1.run pins s1 σ _ Q I p2
  · exact pe_w.run pins s1 σ _ Q I (h s H C0 cl fp)
  · refine hs σ G H Fs E _ fun v0 G1 H1 w1 r1 => ?_
    obtain ⟨a, vs, rfl, h1, hc, r1⟩ := r1.tup_inv
    refine ⟨a, rfl, ⟨vs, .inl (.inl (w1.s _ _ h1))⟩, fun D hD => ?_⟩
    have E1 := E.grow w1
    refine lc_tup (K := X.K) (a := a) (xs := vs) (fun j H' => ∃ G', Lcs G1 H1 D (((xs.take j).filter pT).map fE) G' H') ⟨G1, Lcs.start w1.s hD⟩ (fun j H' _ ⟨G', L⟩ => .inl (.inl (L.w.s _ _ (L.w.g _ _ h1)))) (fun j v H' hv ⟨G', L⟩ => ?_) fun H' ⟨G', L⟩ => ?_
    · obtain ⟨dv, hdv, rv⟩ := r1.get' hv
      rw [List.getElem?_map] at hdv
      cases hy : xs[j]? with
      | none => rw [hy] at hdv; cases hdv
      | some y =>
        rw [hy] at hdv
        obtain rfl := Option.some.inj hdv
        have hm : y ∈ xs := List.mem_of_getElem? hy
        have hlt : j < xs.length := (List.getElem?_eq_some_iff.mp hy).1
        refine lc_turn (G := G) (H := H) fE pT hx hd E1 hD L (rv.mono L.w.g) ?_ (fun s H0 C0 cl fp => hT y hm s H0 C0 cl fp C.blk) (fun z s H0 C0 cl fp => hE y hm z s H0 C0 cl fp C.blk) (fun z G2 H2 L2 => ⟨G2, ?_⟩) (fun z G2 H2 L2 => ⟨G2, ?_⟩)
        · rw [List.length_map]
          have := List.length_filter_le pT (xs.take j)
          rw [List.length_take] at this
          rw [List.length_map] at hc
          omega
        · rw [take_filter_succ hy, if_pos z, List.map_append]; exact L2
        · rw [take_filter_succ hy, if_neg (by rw [z]; exact Bool.false_ne_true), List.append_nil]; exact L2
    · have el : vs.length = xs.length := by rw [r1.len, List.length_map]
      rw [el, List.take_length] at L
      obtain ⟨ws, h2, r2⟩ := L.l
      refine q D ws G' H' (w1.trans L.w) (w1.h.none hD) L.d h2 ?_ r2
      rw [List.length_map]
      have := List.length_filter_le pT xs
      rw [List.length_map] at hc
      omega
theorem cp_tupI {α : Type} {f : α → PyData} {g : α → Int} {pT : α → Bool} {xs : List α} (C : Cok X M F N sc kk) (hx : Sel N Γ x i k) (hd : k.dry = true) (hs : EP X F Γ src (.tuple (xs.map f))) (ok : blkC N sc scope [(x, i)] = true) (hl : Loc (relS scope sc) x) (hf : (relS scope sc).names.lookup x = some .local ∨ (scope.names.lookup x == some .cell) = true)
    (hT : ∀ y ∈ xs, ∀ s H0 C0 cl fp, Cok (Xblk X scope s H0 C0 cl fp) M F N (relS scope sc) kk → TsP (Xblk X scope s H0 C0 cl fp) F (Γ.set i (.val (f y))) ifs (pT y))
    (hE : ∀ y ∈ xs, pT y = true → ∀ s H0 C0 cl fp, Cok (Xblk X scope s H0 C0 cl fp) M F N (relS scope sc) kk → EP (Xblk X scope s H0 C0 cl fp) F (Γ.set i (.val (f y))) elt (.int (g y))) :
    CP X F Γ elt (.Name x px) src ifs scope (((xs.filter pT).map g).map .int) := by
  have h := cp_tup (px := px) (fE := fun y => .int (g y)) C hx hd hs ok hl hf hT hE
  rw [List.map_map]
  exact h
theorem cp_listV0 {α : Type} {f : α → PyData} {g : α → List Int} {xs : List α} (C : Cok X M F N sc kk) (hx : Sel N Γ x i k) (hd : k.dry = true) (hs : LP X F Γ src (xs.map f)) (ok : blkC N sc scope [(x, i)] = true) (hl : Loc (relS scope sc) x) (hf : (relS scope sc).names.lookup x = some .local ∨ (scope.names.lookup x == some .cell) = true)
    (hE : ∀ y ∈ xs, ∀ s H0 C0 cl fp, Cok (Xblk X scope s H0 C0 cl fp) M F N (relS scope sc) kk → EP (Xblk X scope s H0 C0 cl fp) F (Γ.set i (.val (f y))) elt (tupI (g y))) :
    CP X F Γ elt (.Name x px) src [] scope ((xs.map g).map tupI) := by
  have h := cp_list0 (px := px) (fE := fun y => tupI (g y)) C hx hd hs ok hl hf hE
  rw [List.map_map]
  exact h
theorem cp_rangeV0 {n : Int} {g : Nat → List Int} {pr : Pos} (C : Cok X M F N sc kk) (hm : M.mg "range" = none) (hx : Sel N Γ x i k) (hd : k.dry = true) (hs : EP X F Γ e (.int n)) (hn : n ≤ 100000) (ok : blkC N sc scope [(x, i)] = true) (hl : Loc (relS scope sc) x) (hf : (relS scope sc).names.lookup x = some .local ∨ (scope.names.lookup x == some .cell) = true)
    (hg : sc.names.lookup ("range" : Str) = some .globalImplicit) (hpl : plainE e = true)
    (hE : ∀ j, j < n.toNat → ∀ s H0 C0 cl fp, Cok (Xblk X scope s H0 C0 cl fp) M F N (relS scope sc) kk → EP (Xblk X scope s H0 C0 cl fp) F (Γ.set i (.val (.int (j : Int)))) elt (tupI (g j))) (hn0 : -100000 ≤ n) :
    CP X F Γ elt (.Name x px) (.Call (.Name "range" pr) [e] [] pos) [] scope (((List.range n.toNat).map g).map tupI) := by
  have h := cp_range0 (px := px) (pr := pr) (pos := pos) (fE := fun y => tupI (g y)) C hm hx hd hs hn ok hl hf hg hpl hE hn0
  rw [List.map_map]
  exact h
/-- y = [.. for ..], y read by a comprehension -/
theorem sw_cell {gs : List Comprehension} {py : Pos} {l : Nat} {env : PySem.Env} (hy : env.scope.names.lookup y = some .cell) : swapsWith (.ListComp elt gs scope pos) (some (.Name y py)) l env = pure false := by
  have ky : env.kindOf y = some .cell := hy
  unfold swapsWith
  simp only [ky]
  have z : (some NameKind.cell == some NameKind.local) = false := rfl
  rw [z, Bool.and_false, Bool.false_and, Bool.false_and]
theorem ws_setLcC (C : Cok X M F N sc kk) (B : Bok X) (E : Env F G H σ Γ Fs) {tg : Expr} {pos' : Pos} (hx : Sel N Γ x i k) (hd : k.dry = true) (hl : sc.names.lookup x = some .cell) (h : CP X F Γ elt tg src ifs scope ds) (hs : ∀ x, foldedSetIterable src X.env x = pure x) {Γ' : List Kd} (hΓ : Γ.set i (.val (.list ds)) = Γ') (q : ∀ σ' G' H', Env F G' H' σ' Γ' Fs → wSs X rest D σ' H') :
    wSs X (.Assign [.Name x px] (.ListComp elt [⟨tg, src, ifs, 0⟩] scope pos) pos' :: rest) D σ H := by
  subst hΓ
  refine ws_cons ⟨_, ps_set (by rw [C.hN]; exact C.nd) (by rw [C.hN]; exact hx.n) (C.loc (.inr hl)) pe_w (sw_cell (by rw [C.hs]; exact hl)) (.inl (B.fn x)), ?_⟩
  exact (np_lc C h hs).ep σ G H Fs E _ fun v G1 H1 w1 r1 => q _ G1 H1 ((E.grow w1).putD hx.k hd (kat_val r1))
end
end Rn

namespace Rn
open PySem PySem.Spec PyProof.Rows L2

/-! ## defs that may raise -/
def spX (K : PySem.W.Frag) (R : List Ar → PyData → Prop) (RX : List Ar → Addr → Prop) : Sp := fun vs H Q E => ∃ G ars, Ex G H ∧ ArL K G H vs ars ∧
  ((∃ d, R ars d ∧ ∀ v G' H', Grow G H G' H' → Rp G' v d → Q v H') ∨ (∃ C, RX ars C ∧ ∀ G' H', Grow G H G' H' → E (.ref C) none H'))
structure FnX (M : Md) (k : Nat) (x : Str) (R : List Ar → PyData → Prop) (RX : List Ar → Addr → Prop) : Prop where
  ex : ∃ (f : Addr) (fd : FuncData) (ps : List Str), FnOk M.P M.w M.K M.mg M.base (L2.CX M.P M.w) k f fd ps (spX M.K R RX) ∧ M.mg x = some (.ref f) ∧ PySem.W.keepIn M.K (.ref f) = true ∧ Binds M.K fd ps []
theorem FnX.fn {M : Md} {k : Nat} {x : Str} {R : List Ar → PyData → Prop} {RX : List Ar → Addr → Prop} (h : FnX M k x R RX) : FnA M k x R := by
  obtain ⟨f, fd, ps, h1, h2, h3, h4⟩ := h.ex
  exact ⟨f, fd, ps, h1.imp fun vs H Q E ⟨G, ars, d, e, hr, ha, q⟩ => ⟨G, ars, e, ha, .inl ⟨d, hr, q⟩⟩, h2, h3, h4⟩
theorem FnX.mk' {M : Md} {k : Nat} {x : Str} {R : List Ar → PyData → Prop} {RX : List Ar → Addr → Prop} {f : Addr} {fd : FuncData} {ps : List Str} (h : FnOk M.P M.w M.K M.mg M.base (L2.CX M.P M.w) k f fd ps (spX M.K R RX)) (h1 : M.mg x = some (.ref f)) (h2 : PySem.W.keepIn M.K (.ref f) = true) (h3 : Binds M.K fd ps []) : FnX M k x R RX := ⟨f, fd, ps, h, h1, h2, h3⟩
/-- an own class of errors over ValueError -/
structure ClsX (M : Md) (x : Str) (C : Addr) : Prop where
  gC : M.mg x = some (.ref C)
  xC : PySem.W.excIn M.K C [.type "ValueError", .type "Exception", .type "BaseException", .type "object"] "ValueError.__new__" = true
  kC : PySem.W.keepIn M.K (.ref C) = true
  bC : PySem.W.subIn M.K (.ref C) (.type "BaseException") = some true
  tC : PySem.W.typeIn M.K (.ref C) = some (.type "type")
/-- what is wished of an exception of the class at C: all as it was -/
def xWish (F : Fr) (C : Addr) : WX := fun cls d _ H => cls = .ref C ∧ d = none ∧ ∃ G, Grow F.G0 F.B G H
theorem raise_def {M : Md} {x qual : Str} {st : Stmt} {f : Addr} {fd : FuncData} {N ps : List Str} {k : Nat} {R : List Ar → PyData → Prop} {RX : List Ar → Addr → Prop} (n : Nat) (Fu : Fun M.K x qual st f fd) (S : FnScope N ps (defScope st)) (hlen : ∀ ars d, R ars d → ars.length = ps.length) (hlenX : ∀ ars C, RX ars C → ars.length = ps.length) (hn : N.length = ps.length + n)
    (body : ∀ (X : Cx) (F : Fr) (σ : L2.St) (ars : List Ar) (d : PyData) (Γ : List Kd), Cok X M F N (defScope st) k → Bok X → R ars d → ars.map Ar.kd ++ List.replicate n .un = Γ → Env F F.G0 F.B σ Γ (fun _ _ => False) → wSs X (defBody st) (pEnds F d) σ F.B)
    (bodyX : ∀ (X : Cx) (F : Fr) (σ : L2.St) (ars : List Ar) (C : Addr) (Γ : List Kd), Cok X M F N (defScope st) k → Bok X → Takes X (xWish F C) → RX ars C → ars.map Ar.kd ++ List.replicate n .un = Γ → Env F F.G0 F.B σ Γ (fun _ _ => False) → wSs X (defBody st) { nx := fun _ _ => False, rt := fun _ _ => False } σ F.B) :
    FnOk M.P M.w M.K M.mg M.base (L2.CX M.P M.w) (k + 1) f fd ps (spX M.K R RX) := by
  refine Fu.okX S (fun vs H Q E h => ?_) (fun cdv A outer s H vs Q E hr h => ?_)
  · obtain ⟨G, ars, _, h2, h1⟩ := h
    rw [h2.len]
    rcases h1 with ⟨d, h1, _⟩ | ⟨C, h1, _⟩
    · exact hlen ars d h1
    · exact hlenX ars C h1
  · obtain ⟨G, ars, e, h2, h1⟩ := h
    have hl : ars.length = ps.length := by
      rcases h1 with ⟨d, h1, _⟩ | ⟨C, h1, _⟩
      · exact hlen ars d h1
      · exact hlenX ars C h1
    have En := env_start (M := M) (N := N) (n := n) e h2 (by rw [hl]; exact hn)
    rcases h1 with ⟨d, h1, q⟩ | ⟨C, h1, q⟩
    · obtain ⟨t, p, h3⟩ := body ((cxOf (L2.CX M.P M.w) M.P M.w M.K M.mg M.base N qual (defScope st) f cdv A outer s H E).nox) ⟨M.K, H, G⟩ (L2.start N vs) ars d _ ⟨rfl, rfl, rfl, rfl, rfl, rfl, rfl, rfl, S.nd, rfl, hr⟩ ⟨fun _ => rfl, PassesOwn.never, rfl, rfl⟩ h1 rfl En
      refine ⟨fun D σ H' => t (pEnds ⟨M.K, H, G⟩ d) σ H' ∧ D = { nx := fun _ H' => Q .non H', rt := Q }, ⟨fun pins s1 σ1 H1 D I hw => ?_⟩, h3, rfl⟩
      obtain ⟨hw, rfl⟩ := hw
      refine thn (p.nox.run pins s1 σ1 H1 _ I hw) fun fl s2 hq => ?_
      cases fl with
      | next =>
        obtain ⟨σ', H', I', rfl, G', w⟩ := hq
        exact ⟨σ', H', I', q _ _ _ w .non⟩
      | ret u =>
        obtain ⟨v, σ', H', I', r, G', w, rv⟩ := hq
        exact ⟨v, σ', H', I', r, q _ _ _ w rv⟩
      | brk => exact hq
      | cont => exact hq
    · obtain ⟨t, p, h3⟩ := bodyX (cxOf (L2.CX M.P M.w) M.P M.w M.K M.mg M.base N qual (defScope st) f cdv A outer s H E) ⟨M.K, H, G⟩ (L2.start N vs) ars C _ ⟨rfl, rfl, rfl, rfl, rfl, rfl, rfl, rfl, S.nd, rfl, hr⟩ ⟨fun _ => rfl, passes_of rfl, rfl, rfl⟩
        ((takes_of rfl rfl rfl rfl).imp (fun cls d σ H' ⟨h1, h2, G', w⟩ => by rw [h1, h2]; exact q G' H' w)) h1 rfl En
      refine ⟨fun D σ H' => t { nx := fun _ _ => False, rt := fun _ _ => False } σ H' ∧ D = { nx := fun _ H' => Q .non H', rt := Q }, ⟨fun pins s1 σ1 H1 D I hw => ?_⟩, h3, rfl⟩
      obtain ⟨hw, rfl⟩ := hw
      refine thn (p.run pins s1 σ1 H1 _ I hw) fun fl s2 hq => ?_
      cases fl with
      | next => obtain ⟨σ', H', I', z⟩ := hq; exact z.elim
      | ret u => obtain ⟨v, σ', H', I', r, z⟩ := hq; exact z.elim
      | brk => obtain ⟨σ', H', I', z⟩ := hq; exact z.elim
      | cont => obtain ⟨σ', H', I', z⟩ := hq; exact z.elim
section
variable {X : Cx} {M : Md} {F : Fr} {N : List Str} {sc scope : Scope} {kk : Nat} {Γ : List Kd} {e a b c elt src : Expr} {es ifs : List Expr} {rest body : List Stmt} {st : Stmt} {D : Ends} {σ : L2.St} {G H : Hp} {Fs : Nat → Addr → Prop} {d da db d1 d2 : PyData} {ds : List PyData} {p pos px py : Pos} {x y : Str} {i j : Nat} {k k2 : Kd}
/-- raise C('m') -/
theorem ws_raise {C0 : Addr} {W : WX} {m : Str} {j : Nat} {p2 pos' : Pos} (C : Cok X M F N sc kk) (tk : Takes X W) (L : ClsX M x C0) (hg : sc.names.lookup x = some .globalImplicit) (hd : (x == ("__debug__" : Str)) = false) (q : W (.ref C0) none σ H) :
    wSs X (.Raise (some (.Call (.Name x p) [.Constant (.str m) j p2] [] pos)) none pos' :: rest) D σ H := by
  refine ws_cons ⟨_, ps_raise C.calm tk (pmk_own PySem.F.excBase_ValueError (by rw [C.hK]; exact L.xC) (by rw [C.hM]; exact L.gC) (by rw [C.hK]; exact L.kC) (raises_own (by rw [C.hK]; exact L.bC) (by rw [C.hK]; exact L.tC)) (gl_of C hg) hd), ?_⟩
  exact q
/-- a call that raises -/
theorem w_callX {R : List Ar → PyData → Prop} {RX : List Ar → Addr → Prop} {k : Nat} {ars : List Ar} {C0 : Addr} {W : WX} {Q : VK} (C : Cok X M F N sc kk) (h : FnX M k x R RX) (hk : k ≤ kk) (hg : sc.names.lookup x = some .globalImplicit) (tk : Takes X W) (ha : ArP X F Γ (e :: es) ars) (hr : RX ars C0) (E : Env F G H σ Γ Fs) (q : ∀ G' H', Env F G' H' σ Γ Fs → W (.ref C0) none σ H')
    (pl : plainE e = true) (pls : es.all plainE = true) (hd : (x == ("__debug__" : Str)) = false) : wE X (.Call (.Name x p) (e :: es) [] pos) σ H Q := by
  obtain ⟨f, fd, ps, h1, h2, h3, h4⟩ := h.ex
  rw [← C.hP, ← C.hw, ← C.hK, ← C.hM, ← C.hb] at h1
  rw [← C.hM] at h2
  rw [← C.hK] at h3 h4
  refine ⟨_, pe_callS h1 (C.room.mono hk) (gl_of C hg) h2 h3 h4 (fun σ => passAt tk σ) pa_w hd (star_plain pl _ _) (back_plain pls), ?_⟩
  refine ha σ G H Fs E _ fun vs G1 H1 w1 r1 => ?_
  refine ⟨G1, ars, w1.s, by rw [C.hK, ← C.hF]; exact r1, .inr ⟨C0, hr, fun G2 H2 w2 => ?_⟩⟩
  exact q G2 H2 ((E.grow w1).grow w2)
theorem Cok.tr (C : Cok X M F N sc kk) {pn : List (Addr × Obj)} {xe : Value → Shared → Prop} : Cok (X.tr pn xe) M F N sc kk := ⟨C.hP, C.hw, C.hK, C.hF, C.hM, C.hb, C.hN, C.hs, C.nd, C.calm, C.room⟩
/-- try: .. except x as n: .. -/
theorem ws_try {n : Str} {c : Value} {suite : List Stmt} {b₀ : Stmt} {np pos' : Pos} {Wout : WX} (C : Cok X M F N sc kk) (B : Bok X) (hi : N[i]? = some n) (hln : sc.names.lookup n = some .local) (hc : Names X x c) (tk : Takes X Wout)
    (q : ∀ pn xe W, Takes (X.tr pn xe) W → PassesOwn (model X.prog X.w) X.A X.env xe →
      (∀ cls d σ' H', (∃ b, PySem.W.exmOne X.K cls c = some b ∧ (b = true → ∀ a oe pn, H' a = none → Zc cls d oe → (∃ vs, oe.data = .fields vs) →
          wSs (X.suite a ((a, oe) :: pn)) (b₀ :: suite) { nx := fun σ' H' => wSs X rest D (σ'.set i none) H', rt := D.rt, bk := fun σ' H' => D.bk (σ'.set i none) H', ct := fun σ' H' => D.ct (σ'.set i none) H' } (σ'.set i (some (.ref a))) H') ∧ (b = false → Wout cls d σ' H')) → W cls d σ' H') →
      wSs (X.tr pn xe) body { D with nx := fun σ H => wSs X rest D σ H } σ H) :
    wSs X (.Try body [.ExceptHandler (some (.Name x np)) (some n) (b₀ :: suite) pos'] [] [] pos :: rest) D σ H := by
  refine ws_cons ⟨_, ps_try_as (i := i) (tb := fun W D σ H => ∀ pn xe, Takes (X.tr pn xe) W → PassesOwn (model X.prog X.w) X.A X.env xe → wSs (X.tr pn xe) body D σ H) (ts := fun a cls d D σ H => ∀ oe pn, Zc cls d oe → (∃ vs, oe.data = .fields vs) → wSs (X.suite a ((a, oe) :: pn)) (b₀ :: suite) D σ H)
    B.stk B.fr (by rw [C.hN]; exact C.nd) (by rw [C.hN]; exact hi) (by show X.env.scope.names.lookup n = _; rw [C.hs]; exact hln) hc tk (fun W pn xe tk hp => ⟨fun pins s σ H D I h => ?_⟩) (fun a oe cls d pn hz hf => ⟨fun pins s σ H D I h => ?_⟩), ?_⟩
  · obtain ⟨t, p, h⟩ := h pn xe tk hp
    exact p.run pins s σ H D I h
  · obtain ⟨t, p, h⟩ := h oe pn hz hf
    exact p.run pins s σ H D I h
  · intro pn xe tk hp
    refine q pn xe _ tk hp fun cls d σ' H' ⟨b, h1, h2, h3⟩ => ⟨b, h1, fun hb a ha oe pn hz hf => ?_, h3⟩
    exact h2 hb a oe pn ha hz hf
end
end Rn

namespace Rn
open PySem PySem.Spec PyProof.Rows L2

/-! ## within an except suite -/
structure Sok (X : Cx) (N : List Str) (sc : Scope) : Prop where
  hN : X.N = N
  hs : X.env.scope = sc
  nd : N.Nodup
  fn : ∀ x, X.fn x = true
section
variable {X : Cx} {M : Md} {F : Fr} {N : List Str} {sc scope : Scope} {kk : Nat} {Γ : List Kd} {e a b c elt src : Expr} {es ifs : List Expr} {rest body : List Stmt} {st : Stmt} {D : Ends} {σ : L2.St} {G H : Hp} {Fs : Nat → Addr → Prop} {d da db d1 d2 : PyData} {ds : List PyData} {p p2 pos px py : Pos} {x y : Str} {i j : Nat} {k k2 : Kd}
theorem Sok.of (C : Cok X M F N sc kk) (B : Bok X) {a : Addr} {pn : List (Addr × Obj)} : Sok (X.suite a pn) N sc := ⟨C.hN, C.hs, C.nd, B.fn⟩
theorem w_nameS (C : Sok X N sc) (h : Sel N Γ x i k) (hv : Vis sc x) {σ : L2.St} {H : Hp} {v : V} (hs : σ[i]?.join = some v) {Q : VK} (q : Q v H) (hd : (x == ("__debug__" : Str)) = false) (hcd : (x == ("__classdict__" : Str)) = false) : wE X (.Name x pos) σ H Q :=
  ⟨_, pe_var (i := i) (by rw [C.hN]; exact h.n) (by rw [C.hs]; exact hv) hd hcd, v, join_some hs, q⟩
theorem ep_nameS (C : Sok X N sc) (h : Sel N Γ x i (.val d)) (hv : Vis sc x) (hd : (x == ("__debug__" : Str)) = false) (hcd : (x == ("__classdict__" : Str)) = false) : EP X F Γ (.Name x pos) d := fun σ G H Fs E Q q => by
  obtain ⟨_, v, h1, h2⟩ := E.sl i _ h.k
  exact w_nameS C h hv h1 (q v G H (.refl E.gh) h2) hd hcd
theorem ws_setS (C : Sok X N sc) (E : Env F G H σ Γ Fs) (hx : Sel N Γ x i k) (hd : k.dry = true) (hl : Loc sc x) (h : EP X F Γ e d) {Γ' : List Kd} (hΓ : Γ.set i (.val d) = Γ') (q : ∀ σ' G' H', Env F G' H' σ' Γ' Fs → wSs X rest D σ' H') (hc : noComp e = true) :
    wSs X (.Assign [.Name x px] e pos :: rest) D σ H := by
  subst hΓ
  refine ws_cons ⟨_, ps_set (by rw [C.hN]; exact C.nd) (by rw [C.hN]; exact hx.n) (by rw [C.hs]; exact hl) pe_w (sw_no hc _ _ _) (.inl (C.fn x)), ?_⟩
  exact h σ G H Fs E _ fun v G1 H1 w1 r1 => q _ G1 H1 ((E.grow w1).putD hx.k hd (kat_val r1))
theorem glS (C : Sok X N sc) (h : sc.names.lookup x = some .globalImplicit) : Gl X x := by
  show X.env.scope.names.lookup x = _
  rw [C.hs]; exact h
/-- isinstance(e, D), e the exception that the suite holds -/
theorem ep_isE {ax : Addr} {C0 C2 : Addr} {oe : Obj} {pn : List (Addr × Obj)} {t : Bool} (C : Sok (X.suite ax ((ax, oe) :: pn)) N sc) (EC : ExcC X.K C0) (hz : Zc (.ref C0) none oe) (hf : ∃ vs, oe.data = .fields vs) (hm : X.mg "isinstance" = none) (h2 : X.mg y = some (.ref C2)) (hb : PySem.W.kitOne X.K (.ref C0) (.ref C2) = some t)
    (hx : Sel N Γ x i (.raw (.ref ax))) (hv : Vis sc x) (hd : (x == ("__debug__" : Str)) = false) (hcd : (x == ("__classdict__" : Str)) = false) (hg : sc.names.lookup ("isinstance" : Str) = some .globalImplicit) (hg2 : sc.names.lookup y = some .globalImplicit) (hd2 : (y == ("__debug__" : Str)) = false) :
    EP (X.suite ax ((ax, oe) :: pn)) F Γ (.Call (.Name "isinstance" p) [.Name x px, .Name y py] [] pos) (.bool t) := fun σ G H Fs E Q q => by
  refine ⟨_, pe_callB (call_isE EC hz hf) (glS C hg) hm (by decide +kernel) (pa_cons pe_w (pa_cons (pe_glob (v := .ref C2) (glS C hg2) h2 rfl hd2) pa_nil)), ?_⟩
  obtain ⟨_, h1⟩ := E.sl i _ hx.k
  refine w_nameS C hx hv h1 ?_ hd hcd
  exact ⟨.ref C2, .ref C2, t, rfl, fun u r => r, hb, q _ _ _ (.refl E.gh) .bl⟩
theorem ep_isEB {ax : Addr} {C0 : Addr} {oe : Obj} {pn : List (Addr × Obj)} {T : String} {t : Bool} (C : Sok (X.suite ax ((ax, oe) :: pn)) N sc) (EC : ExcC X.K C0) (hz : Zc (.ref C0) none oe) (hf : ∃ vs, oe.data = .fields vs) (hm : X.mg "isinstance" = none) (h2 : X.mg y = none) (hT : bootBuiltins y = some (.type T)) (hb : PySem.W.kitOne X.K (.ref C0) (.type T) = some t)
    (hx : Sel N Γ x i (.raw (.ref ax))) (hv : Vis sc x) (hd : (x == ("__debug__" : Str)) = false) (hcd : (x == ("__classdict__" : Str)) = false) (hg : sc.names.lookup ("isinstance" : Str) = some .globalImplicit) (hg2 : sc.names.lookup y = some .globalImplicit) (hd2 : (y == ("__debug__" : Str)) = false) (hn2 : y ≠ "__name__") :
    EP (X.suite ax ((ax, oe) :: pn)) F Γ (.Call (.Name "isinstance" p) [.Name x px, .Name y py] [] pos) (.bool t) := fun σ G H Fs E Q q => by
  refine ⟨_, pe_callB (call_isE EC hz hf) (glS C hg) hm (by decide +kernel) (pa_cons pe_w (pa_cons (pe_bltn (v := .ty T) (glS C hg2) h2 hT rfl hn2 hd2) pa_nil)), ?_⟩
  obtain ⟨_, h1⟩ := E.sl i _ hx.k
  refine w_nameS C hx hv h1 ?_ hd hcd
  exact ⟨.ty T, .type T, t, rfl, fun u r => r, hb, q _ _ _ (.refl E.gh) .bl⟩
theorem RpL.bls_inv {G : Hp} : ∀ {vs : List V} {bs : List Bool}, RpL G vs (bs.map PyData.bool) → vs = bs.map V.bl
  | _, [], .nil => rfl
  | _, n :: r, h => by
    cases h with
    | cons a b => cases a; rw [RpL.bls_inv b]; rfl
theorem flat_bls : ∀ {bs : List Bool}, (bs.map V.bl).all flatV = true
  | [] => rfl
  | n :: r => by rw [List.map_cons, List.all_cons, flat_bls]; rfl
/-- True not in (truth values) -/
theorem ep_notInB {t : Bool} {bs : List Bool} (ha : EP X F Γ a (.bool t)) (hb : LP X F Γ b (bs.map .bool)) (hm : behindInMarks .NotIn b = false) : EP X F Γ (.Compare a [.NotIn] [b] pos) (.bool (!(inV (.bl t) (bs.map .bl)))) := fun σ G H Fs E Q q => by
  refine ⟨_, pe_cmpR op_notIn_seq pe_w pe_w hm, ?_⟩
  refine ha σ G H Fs E _ fun x G1 H1 w1 r1 => hb σ G1 H1 Fs (E.grow w1) _ fun p vs G2 H2 w2 h2 hc2 r2 => ?_
  obtain rfl := r1.bl_inv
  obtain rfl := r2.bls_inv
  refine ⟨p, _, rfl, .inl (.inl (.inl h2)), rfl, flat_bls, ?_⟩
  rw [if_pos rfl]
  exact q _ _ _ (w1.trans w2) .bl
theorem env_raw (E : Env F G H σ Γ Fs) (hi : Γ[i]? = some k) (hd : k.dry = true) {v : V} : Env F G H (σ.set i (some v)) (Γ.set i (.raw v)) Fs := E.putD hi hd ⟨fun _ z => z, rfl⟩
inductive VOf : List PyData → List (List Int) → Prop
  | nil : VOf [] []
  | cons {x : List Int} {ds : List PyData} {ns : List (List Int)} : VOf ds ns → VOf (tupI x :: ds) (x :: ns)
theorem VOf.eq : ∀ {ds : List PyData} {ns : List (List Int)}, VOf ds ns → ds = ns.map tupI
  | _, _, .nil => rfl
  | _, _, .cons h => by rw [h.eq]; rfl
theorem lp_lstV {vs : List (List Int)} (h : AP_ X F Γ es ds) (hi : VOf ds vs) (hl : ds.length ≤ cap) : LP X F Γ (.List es pos) (vs.map tupI) := by
  rw [← hi.eq]; exact NP.lp (np_lst h hl)
end
end Rn

namespace Rn
open PySem PySem.Spec PyProof.Rows L2

/-! ## cells that are known one by one -/
inductive Cl
  | lst (ds : List PyData)
  | ins (C dx : Addr) (fs : List (Str × V))
  | dic (kvs : List (Int × PyData))
  | lck (od : Obj) (kvs : List (Int × PyData))
inductive RpD (G : Hp) : List (Key × V) → List (Int × PyData) → Prop
  | nil : RpD G [] []
  | cons {k : Int} {v : V} {d : PyData} {es : List (Key × V)} {kvs : List (Int × PyData)} : Rp G v d → RpD G es kvs → RpD G ((Sum.inl k, v) :: es) ((k, d) :: kvs)
theorem RpD.mono {G G' : Hp} (e : Ex G G') : ∀ {es : List (Key × V)} {kvs : List (Int × PyData)}, RpD G es kvs → RpD G' es kvs
  | _, _, .nil => .nil
  | _, _, .cons h r => .cons (h.mono e) (r.mono e)
theorem RpD.len {G : Hp} : ∀ {es : List (Key × V)} {kvs : List (Int × PyData)}, RpD G es kvs → es.length = kvs.length
  | _, _, .nil => rfl
  | _, _, .cons _ r => by rw [List.length_cons, List.length_cons, r.len]
theorem RpD.get {G : Hp} : ∀ {es : List (Key × V)} {kvs : List (Int × PyData)} {i : Nat} {p : Key × V}, RpD G es kvs → es[i]? = some p → ∃ k d, p.1 = Sum.inl k ∧ kvs[i]? = some (k, d) ∧ Rp G p.2 d
  | _, _, _, _, .nil, h => by simp at h
  | _, _, 0, _, .cons (k := k) (d := d) r _, h => by
    have h' := Option.some.inj (show some _ = some _ from h)
    subst h'
    exact ⟨k, d, rfl, rfl, r⟩
  | _, _, i + 1, _, .cons _ t, h => by
    obtain ⟨k, d, h1, h2, h3⟩ := RpD.get (i := i) t (by simpa using h)
    exact ⟨k, d, h1, by simpa using h2, h3⟩
theorem RpD.keys {G : Hp} : ∀ {es : List (Key × V)} {kvs : List (Int × PyData)}, RpD G es kvs → es.map (fun kv => kV kv.1) = (kvs.map (·.1)).map V.int
  | _, _, .nil => rfl
  | _, _, .cons _ r => by rw [List.map_cons, List.map_cons, List.map_cons, r.keys]; rfl
/-- what stands at the key -/
def dlook (kvs : List (Int × PyData)) (k : Int) : Option PyData := (kvs.find? fun p => decide (p.1 = k)).map (·.2)
theorem RpD.val {G : Hp} {k : Int} : ∀ {es : List (Key × V)} {kvs : List (Int × PyData)}, RpD G es kvs → (∀ d, dlook kvs k = some d → ∃ v, valV es (Sum.inl k) = some v ∧ Rp G v d) ∧ (valV es (Sum.inl k)).isSome = (dlook kvs k).isSome
  | _, _, .nil => ⟨(fun d h => nomatch h), rfl⟩
  | _, _, .cons (k := j) (v := v) (d := d0) (es := es) (kvs := kvs) h r => by
    by_cases e : j = k
    · subst e
      rw [valV_pos (p := (Sum.inl j, v)) rfl, show dlook ((j, d0) :: kvs) j = some d0 from by simp [dlook, List.find?_cons]]
      refine ⟨fun d hd => ?_, rfl⟩
      obtain rfl := Option.some.inj hd
      exact ⟨v, rfl, h⟩
    · rw [valV_neg (p := (Sum.inl j, v)) (by intro z; exact e (Sum.inl.inj z)), show dlook ((j, d0) :: kvs) k = dlook kvs k from by simp [dlook, List.find?_cons, e]]
      exact r.val
/-- a key is stored -/
def dput (kvs : List (Int × PyData)) (k : Int) (d : PyData) : List (Int × PyData) :=
  if (kvs.any fun p => decide (p.1 = k)) = true then kvs.map (fun p => if p.1 = k then (p.1, d) else p) else kvs ++ [(k, d)]
theorem dput_len (kvs : List (Int × PyData)) (k : Int) (d : PyData) : (dput kvs k d).length ≤ kvs.length + 1 := by
  unfold dput
  split
  · rw [List.length_map]; omega
  · rw [List.length_append, List.length_singleton]; exact Nat.le_refl _
theorem RpD.any {G : Hp} {k : Int} : ∀ {es : List (Key × V)} {kvs : List (Int × PyData)}, RpD G es kvs → (es.any fun kv => decide (kv.1 = (Sum.inl k : Key))) = (kvs.any fun p => decide (p.1 = k))
  | _, _, .nil => rfl
  | _, _, .cons (k := j) _ r => by
    rw [List.any_cons, List.any_cons, r.any]
    congr 1
    by_cases e : j = k
    · subst e; simp
    · rw [decide_eq_false (show ¬ (Sum.inl j : Key) = Sum.inl k from fun z => e (Sum.inl.inj z)), decide_eq_false e]
theorem RpD.repl {G : Hp} {k : Int} {v : V} {d : PyData} (h : Rp G v d) : ∀ {es : List (Key × V)} {kvs : List (Int × PyData)}, RpD G es kvs → RpD G (es.map fun kv => if kv.1 = (Sum.inl k : Key) then (kv.1, v) else kv) (kvs.map fun p => if p.1 = k then (p.1, d) else p)
  | _, _, .nil => .nil
  | _, _, .cons (k := j) h2 r => by
    rw [List.map_cons, List.map_cons]
    by_cases e : j = k
    · subst e
      rw [if_pos rfl, if_pos rfl]
      exact .cons h (r.repl h)
    · rw [if_neg (show ¬ (Sum.inl j : Key) = Sum.inl k from fun z => e (Sum.inl.inj z)), if_neg e]
      exact .cons h2 (r.repl h)
theorem RpD.snoc {G : Hp} {k : Int} {v : V} {d : PyData} (h : Rp G v d) : ∀ {es : List (Key × V)} {kvs : List (Int × PyData)}, RpD G es kvs → RpD G (es ++ [(Sum.inl k, v)]) (kvs ++ [(k, d)])
  | _, _, .nil => .cons h .nil
  | _, _, .cons h2 r => .cons h2 (r.snoc h)
theorem RpD.put {G : Hp} {k : Int} {v : V} {d : PyData} (h : Rp G v d) {es : List (Key × V)} {kvs : List (Int × PyData)} (r : RpD G es kvs) : RpD G (putK es (Sum.inl k) v) (dput kvs k d) := by
  unfold putK dput
  rw [r.any]
  split
  · exact r.repl h
  · exact r.snoc h
def ClAt (G H : Hp) (a : Addr) : Cl → Prop
  | .lst ds => ∃ vs, H a = some (.lst vs) ∧ ds.length ≤ cap ∧ RpL G vs ds
  | .ins C dx fs => H a = some (.ins C dx fs)
  | .dic kvs => ∃ es, H a = some (.dK es) ∧ kvs.length ≤ cap ∧ RpD G es kvs
  | .lck od kvs => ∃ es, H a = some (.frz od (.dK es)) ∧ kvs.length ≤ cap ∧ RpD G es kvs
theorem ClAt.loc {G H G' H' : Hp} {a : Addr} {c : Cl} (h : ClAt G H a c) (g : Ex G G') (e : H' a = H a) : ClAt G' H' a c := by
  cases c with
  | lst ds => obtain ⟨vs, h1, h2, h3⟩ := h; exact ⟨vs, e.trans h1, h2, h3.mono g⟩
  | ins C dx fs => exact Eq.trans e h
  | dic kvs => obtain ⟨es, h1, h2, h3⟩ := h; exact ⟨es, e.trans h1, h2, h3.mono g⟩
  | lck od kvs => obtain ⟨es, h1, h2, h3⟩ := h; exact ⟨es, e.trans h1, h2, h3.mono g⟩
theorem ClAt.some {G H : Hp} {a : Addr} {c : Cl} (h : ClAt G H a c) : H a ≠ none := by
  cases c with
  | lst ds => obtain ⟨vs, h1, h2, h3⟩ := h; rw [h1]; exact fun z => nomatch z
  | ins C dx fs => rw [show H a = _ from h]; exact fun z => nomatch z
  | dic kvs => obtain ⟨es, h1, h2, h3⟩ := h; rw [h1]; exact fun z => nomatch z
  | lck od kvs => obtain ⟨es, h1, h2, h3⟩ := h; rw [h1]; exact fun z => nomatch z
theorem ClAt.mono {G H G' H' : Hp} {a : Addr} {c : Cl} (h : ClAt G H a c) (g : Ex G G') (e : Ex H H') : ClAt G' H' a c := h.loc g (eq_of_ex e h.some)
def keysC (cs : List (Addr × Cl)) : List Addr := cs.map (·.1)
/-- cells that are one's own -/
def rsH (cs : List (Addr × Cl)) : Rs where
  at_ := fun G H _ P => (∀ a, P a ↔ a ∈ keysC cs) ∧ (keysC cs).Nodup ∧ ∀ p ∈ cs, ClAt G H p.1 p.2
  loc := fun h g e => ⟨h.1, h.2.1, fun p hp => (h.2.2 p hp).loc g (e _ ((h.1 _).mpr (List.mem_map.mpr ⟨p, hp, rfl⟩)))⟩
/-- cells that are read -/
def roH (v0 : V) (cs : List (Addr × Cl)) : Ro where
  at_ := fun G H v => v = v0 ∧ ∀ p ∈ cs, ClAt G H p.1 p.2
  mono := fun h g e => ⟨h.1, fun p hp => (h.2 p hp).mono g e⟩

/-- names by places, from the left: the field of an instance -/
inductive FSel : List (Str × V) → Str → V → Prop
  | here {f : Str} {v : V} {fs : List (Str × V)} : FSel ((f, v) :: fs) f v
  | there {f g : Str} {v w : V} {fs : List (Str × V)} : ¬ g = f → FSel fs f v → FSel ((g, w) :: fs) f v
theorem FSel.look {fs : List (Str × V)} {f : Str} {v : V} (h : FSel fs f v) : fs.lookup f = some v := by
  induction h with
  | here => simp [List.lookup_cons]
  | there hn _ ih => rw [List.lookup_cons, beq_false_of_ne (fun z => hn z.symm)]; exact ih
inductive FNo : List (Str × V) → Str → Prop
  | nil {f : Str} : FNo [] f
  | cons {f g : Str} {w : V} {fs : List (Str × V)} : ¬ g = f → FNo fs f → FNo ((g, w) :: fs) f
theorem FNo.look {fs : List (Str × V)} {f : Str} (h : FNo fs f) : fs.lookup f = none := by
  induction h with
  | nil => rfl
  | cons hn _ ih => rw [List.lookup_cons, beq_false_of_ne (fun z => hn z.symm)]; exact ih
inductive FPut (f : Str) (v : V) : List (Str × V) → List (Str × V) → Prop
  | nil : FPut f v [] [(f, v)]
  | here {w : V} {fs : List (Str × V)} : FPut f v ((f, w) :: fs) ((f, v) :: fs)
  | there {g : Str} {w : V} {fs fs' : List (Str × V)} : ¬ g = f → FPut f v fs fs' → FPut f v ((g, w) :: fs) ((g, w) :: fs')
theorem FPut.put {f : Str} {v : V} {fs fs' : List (Str × V)} (h : FPut f v fs fs') : putF f v fs = fs' := by
  induction h with
  | nil => rfl
  | here => show (if _ then _ else _) = _; rw [if_pos rfl]
  | there hn _ ih => show (if _ then _ else _) = _; rw [if_neg hn, ih]
inductive CSel : List (Addr × Cl) → Nat → Addr → Cl → Prop
  | here {a : Addr} {c : Cl} {cs : List (Addr × Cl)} : CSel ((a, c) :: cs) 0 a c
  | there {a : Addr} {c : Cl} {cs : List (Addr × Cl)} {p : Addr × Cl} {n : Nat} : CSel cs n a c → CSel (p :: cs) (n + 1) a c
theorem CSel.get {cs : List (Addr × Cl)} {n : Nat} {a : Addr} {c : Cl} (h : CSel cs n a c) : cs[n]? = some (a, c) := by
  induction h with
  | here => rfl
  | there _ ih => simpa using ih
theorem CSel.mem {cs : List (Addr × Cl)} {n : Nat} {a : Addr} {c : Cl} (h : CSel cs n a c) : (a, c) ∈ cs := List.mem_of_getElem? h.get

theorem nodup_inj {α : Type} {xs : List α} (h : xs.Nodup) {i j : Nat} (hi : i < xs.length) (hj : j < xs.length) (e : xs[i] = xs[j]) : i = j := by
  have p := List.pairwise_iff_getElem.mp h
  rcases Nat.lt_trichotomy i j with z | z | z
  · exact absurd e (p i j hi hj z)
  · exact z
  · exact absurd e.symm (p j i hj hi z)
theorem keysC_cons {p : Addr × Cl} {cs : List (Addr × Cl)} : keysC (p :: cs) = p.1 :: keysC cs := rfl
/-- another kind and other places, nothing else -/
theorem Env.adopt {F : Fr} {G H : Hp} {σ : L2.St} {Γ : List Kd} {Fs : Nat → Addr → Prop} (E : Env F G H σ Γ Fs) {i : Nat} {k k' : Kd} {P : Addr → Prop} (hi : Γ[i]? = some k) (hk : KAt F G H k' (σ[i]?.join) P)
    (hp : ∀ a, P a → Fs i a ∨ (F.B a = none ∧ G a = none ∧ H a ≠ none ∧ ∀ j, ¬ Fs j a)) : Env F G H σ (Γ.set i k') (fun j => if j = i then P else Fs j) := by
  have hi' : i < Γ.length := (List.getElem?_eq_some_iff.mp hi).1
  refine ⟨E.gh, E.bh, E.g0, E.go, by rw [List.length_set]; exact E.len, fun j q hj => ?_, fun j l a h1 h2 => ?_, fun j a h => ?_⟩
  · by_cases e : j = i
    · subst e
      rw [List.getElem?_set_self hi'] at hj
      obtain rfl := Option.some.inj hj
      simpa using hk
    · rw [List.getElem?_set_ne (Ne.symm e)] at hj
      simp only [e, if_false]
      exact E.sl j q hj
  · have key : ∀ l a, l ≠ i → P a → Fs l a → False := fun l a hl p f => by
      rcases hp a p with z | z
      · exact hl (E.dis l i a f z)
      · exact z.2.2.2 l f
    by_cases e1 : j = i <;> by_cases e2 : l = i
    · rw [e1, e2]
    · simp only [e1, if_true, e2, if_false] at h1 h2; exact (key l a e2 h1 h2).elim
    · simp only [e1, if_false, e2, if_true] at h1 h2; exact (key j a e1 h2 h1).elim
    · simp only [e1, if_false, e2] at h1 h2; exact E.dis j l a h1 h2
  · rw [List.length_set]
    by_cases e1 : j = i
    · simp only [e1, if_true] at h
      rw [e1]
      rcases hp a h with z | z
      · exact ⟨(E.fp i a z).1, (E.fp i a z).2.1, (E.fp i a z).2.2.1, hi'⟩
      · exact ⟨z.1, z.2.1, z.2.2.1, hi'⟩
    · simp only [e1, if_false] at h
      exact E.fp j a h
/-- a cell that nobody owns comes to one's own -/
theorem Env.take {F : Fr} {G H : Hp} {σ : L2.St} {Γ : List Kd} {Fs : Nat → Addr → Prop} (E : Env F G H σ Γ Fs) {i : Nat} {v : V} {cs : List (Addr × Cl)} {p : Addr} {c : Cl} (hi : Γ[i]? = some (.res v (rsH cs))) (hc : ClAt G H p c) (hb : F.B p = none) (hg : G p = none) (hf : ∀ j, ¬ Fs j p) :
    ∃ Fs', Env F G H σ (Γ.set i (.res v (rsH ((p, c) :: cs)))) Fs' := by
  obtain ⟨h1, h2, h3, h4⟩ := E.sl i _ hi
  have hnp : p ∉ keysC cs := fun z => hf i ((h2 p).mpr z)
  refine ⟨_, E.adopt (k' := .res v (rsH ((p, c) :: cs))) (P := fun b => b = p ∨ Fs i b) hi ⟨h1, ?_, ?_, ?_⟩ (fun b hb' => ?_)⟩
  · intro b; rw [keysC_cons, List.mem_cons, ← h2 b]
  · rw [keysC_cons]; exact List.nodup_cons.mpr ⟨hnp, h3⟩
  · intro q hq
    rcases List.mem_cons.mp hq with e | e
    · subst e; exact hc
    · exact h4 q e
  · rcases hb' with e | e
    · subst e; exact .inr ⟨hb, hg, hc.some, hf⟩
    · exact .inl e
/-- an own cell changes -/
theorem Env.chgH {F : Fr} {G H : Hp} {σ : L2.St} {Γ : List Kd} {Fs : Nat → Addr → Prop} (E : Env F G H σ Γ Fs) {i n : Nat} {v : V} {cs : List (Addr × Cl)} {a : Addr} {c c' : Cl} {o : HO} (hi : Γ[i]? = some (.res v (rsH cs))) (hn : CSel cs n a c) (hc : ClAt G (upd H a o) a c') :
    Env F G (upd H a o) σ (Γ.set i (.res v (rsH (cs.set n (a, c'))))) Fs := by
  obtain ⟨h1, h2, h3, h4⟩ := E.sl i _ hi
  have ha : Fs i a := (h2 a).mpr (List.mem_map.mpr ⟨_, hn.mem, rfl⟩)
  have hn' := hn.get
  have hlt : n < cs.length := (List.getElem?_eq_some_iff.mp hn').1
  have ek : keysC (cs.set n (a, c')) = keysC cs := by
    unfold keysC
    rw [List.map_set]
    refine List.ext_getElem? fun j => ?_
    by_cases e : n = j
    · subst e
      rw [List.getElem?_set_self (by rw [List.length_map]; exact hlt), List.getElem?_map, hn']; rfl
    · rw [List.getElem?_set_ne e]
  have key := E.chg (H' := upd H a o) (k' := .res v (rsH (cs.set n (a, c')))) (P := Fs i) hi ⟨h1, ?_, ?_, ?_⟩ (fun b hb o' ho => ?_) (fun b hb => ⟨?_, .inl hb⟩)
  · have e : (fun j => if j = i then Fs i else Fs j) = Fs := by
      funext j
      by_cases e : j = i
      · rw [if_pos e, e]
      · rw [if_neg e]
    rw [e] at key
    exact key
  · intro b; rw [ek]; exact h2 b
  · rw [ek]; exact h3
  · intro p hp
    obtain ⟨j, hj⟩ := List.getElem?_of_mem hp
    by_cases e : n = j
    · subst e
      rw [List.getElem?_set_self hlt] at hj
      obtain rfl := Option.some.inj hj
      exact hc
    · rw [List.getElem?_set_ne e] at hj
      refine (h4 p (List.mem_of_getElem? hj)).loc (.refl G) (upd_ne fun z => e ?_)
      have hj2 : (keysC cs)[j]? = some p.1 := by unfold keysC; rw [List.getElem?_map, hj]; rfl
      have hn2 : (keysC cs)[n]? = some a := by unfold keysC; rw [List.getElem?_map, hn']; rfl
      obtain ⟨b1, e1⟩ := List.getElem?_eq_some_iff.mp hj2
      obtain ⟨b2, e2⟩ := List.getElem?_eq_some_iff.mp hn2
      exact nodup_inj h3 b2 b1 (e2.trans (z.symm.trans e1.symm))
  · have : b ≠ a := fun z => hb (z ▸ ha)
    rw [upd_ne this]; exact ho
  · by_cases e : b = a
    · subst e; rw [upd_same]; exact fun z => nomatch z
    · rw [upd_ne e]; exact (E.fp i b hb).2.2.1
/-- a new cell comes to one's own -/
theorem Env.addH {F : Fr} {G H : Hp} {σ : L2.St} {Γ : List Kd} {Fs : Nat → Addr → Prop} (E : Env F G H σ Γ Fs) {i : Nat} {v : V} {cs : List (Addr × Cl)} {p : Addr} {c : Cl} {o : HO} (hi : Γ[i]? = some (.res v (rsH cs))) (hp : H p = none) (hc : ClAt G (upd H p o) p c) :
    ∃ Fs', Env F G (upd H p o) σ (Γ.set i (.res v (rsH ((p, c) :: cs)))) Fs' := by
  obtain ⟨h1, h2, h3, h4⟩ := E.sl i _ hi
  have hnp : p ∉ keysC cs := fun z => (E.fp i p ((h2 p).mpr z)).2.2.1 hp
  refine ⟨_, E.chg (H' := upd H p o) (k' := .res v (rsH ((p, c) :: cs))) (P := fun b => b = p ∨ Fs i b) hi ⟨h1, ?_, ?_, ?_⟩ (fun b hb o' ho => ?_) (fun b hb => ?_)⟩
  · intro b; rw [keysC_cons, List.mem_cons, ← h2 b]
  · rw [keysC_cons]; exact List.nodup_cons.mpr ⟨hnp, h3⟩
  · intro q hq
    rcases List.mem_cons.mp hq with e | e
    · subst e; exact hc
    · refine (h4 q e).loc (.refl G) (upd_ne fun z => hnp ?_)
      rw [← z]; exact List.mem_map.mpr ⟨q, e, rfl⟩
  · have : b ≠ p := fun z => by rw [z, hp] at ho; cases ho
    rw [upd_ne this]; exact ho
  · rcases hb with e | e
    · subst e; rw [upd_same]; exact ⟨(fun z => nomatch z), .inr hp⟩
    · have : b ≠ p := fun z => (E.fp i b e).2.2.1 (z ▸ hp)
      rw [upd_ne this]; exact ⟨(E.fp i b e).2.2.1, .inl e⟩

/-! ## what is known of a cell; exact values -/
def Kn (F : Fr) (Γ : List Kd) (a : Addr) (c : Cl) : Prop := ∀ σ G H Fs, Env F G H σ Γ Fs → ClAt G H a c
def VP (X : Cx) (F : Fr) (Γ : List Kd) (e : Expr) (v : V) : Prop := ∀ σ G H Fs, Env F G H σ Γ Fs → ∀ Q : VK, (∀ G' H', Grow G H G' H' → Q v H') → wE X e σ H Q
section
variable {X : Cx} {M : Md} {F : Fr} {N : List Str} {sc scope : Scope} {kk : Nat} {Γ : List Kd} {e a b c elt src : Expr} {es ifs : List Expr} {rest body : List Stmt} {st : Stmt} {D : Ends} {σ : L2.St} {G H : Hp} {Fs : Nat → Addr → Prop} {d da db d1 d2 : PyData} {ds : List PyData} {p pos px py pa pc : Pos} {x y f : Str} {i j n : Nat} {k k2 : Kd} {v : V} {q A B0 dx Cc : Addr} {fs fs' : List (Str × V)} {cs : List (Addr × Cl)} {cl : Cl} {kvs : List (Int × PyData)}
theorem kn_res (hx : Kx Γ i (.res v (rsH cs))) (h : CSel cs n A cl) : Kn F Γ A cl := fun σ G H Fs E => by
  obtain ⟨_, _, _, h4⟩ := E.sl i _ hx.kd
  exact h4 _ h.mem
theorem kn_obj (hx : Kx Γ i (.arg (.obj (roH v cs)))) (h : CSel cs n A cl) : Kn F Γ A cl := fun σ G H Fs E => by
  obtain ⟨_, u, _, _, h4⟩ := E.sl i _ hx.kd
  exact (h4 _ h.mem).mono (.refl _) E.bh
theorem vp_res {r : Rs} (C : Cok X M F N sc kk) (h : Sel N Γ x i (.res v r)) (hv : Vis sc x) (hd : (x == ("__debug__" : Str)) = false) (hcd : (x == ("__classdict__" : Str)) = false) : VP X F Γ (.Name x px) v := fun σ G H Fs E Q q => by
  obtain ⟨h1, _⟩ := E.sl i _ h.k
  exact w_name C h hv h1 (q G H (.refl E.gh)) hd hcd
theorem vp_own (C : Cok X M F N sc kk) (h : Sel N Γ x i (.own v ds)) (hv : Vis sc x) (hd : (x == ("__debug__" : Str)) = false) (hcd : (x == ("__classdict__" : Str)) = false) : VP X F Γ (.Name x px) v := fun σ G H Fs E Q q => by
  obtain ⟨h1, _⟩ := E.sl i _ h.k
  exact w_name C h hv h1 (q G H (.refl E.gh)) hd hcd
theorem vp_raw (C : Cok X M F N sc kk) (h : Sel N Γ x i (.raw v)) (hv : Vis sc x) (hd : (x == ("__debug__" : Str)) = false) (hcd : (x == ("__classdict__" : Str)) = false) : VP X F Γ (.Name x px) v := fun σ G H Fs E Q q => by
  obtain ⟨_, h1⟩ := E.sl i _ h.k
  exact w_name C h hv h1 (q G H (.refl E.gh)) hd hcd
theorem vp_obj (C : Cok X M F N sc kk) (h : Sel N Γ x i (.arg (.obj (roH v cs)))) (hv : Vis sc x) (hd : (x == ("__debug__" : Str)) = false) (hcd : (x == ("__classdict__" : Str)) = false) : VP X F Γ (.Name x px) v := fun σ G H Fs E Q q => by
  obtain ⟨_, u, h1, rfl, _⟩ := E.sl i _ h.k
  exact w_name C h hv h1 (q G H (.refl E.gh)) hd hcd
theorem vp_fld (C : Cok X M F N sc kk) (ho : VP X F Γ e (.ref A)) (hk : Kn F Γ A (.ins Cc dx fs)) (T : Cls M.K Cc) (na : NoAttr M.K Cc f) (hl : FSel fs f v) (hb : attributeBase e f X.env (eval e X.env) = eval e X.env) : VP X F Γ (.Attribute e f pos) v := fun σ G H Fs E Q q => by
  refine ⟨_, pe_fld pe_w hb, ho σ G H Fs E _ fun G1 H1 w1 => ?_⟩
  exact ⟨A, Cc, dx, fs, v, rfl, hk σ G1 H1 Fs (E.grow w1), by rw [C.hK]; exact T, by rw [C.hK]; exact na, hl.look, q _ _ w1⟩
theorem ep_vint {m : Int} (h : VP X F Γ e (.int m)) : EP X F Γ e (.int m) := fun σ G H Fs E Q q => h σ G H Fs E Q fun G1 H1 w1 => q _ _ _ w1 .int
theorem lp_v (h : VP X F Γ e (.ref A)) (hk : Kn F Γ A (.lst ds)) : LP X F Γ e ds := fun σ G H Fs E Q q => h σ G H Fs E Q fun G1 H1 w1 => by
  obtain ⟨vs, h1, h2, h3⟩ := hk σ G1 H1 Fs (E.grow w1)
  exact q A vs G1 H1 w1 h1 h2 h3
/-! ### dicts -/
theorem ep_dget {m : Int} (C : Cok X M F N sc kk) (ho : VP X F Γ a (.ref A)) (hi : EP X F Γ b (.int m)) (hk : Kn F Γ A (.dic kvs)) (hl : dlook kvs m = some d) (hs : NoSl b := by exact fun _ _ => rfl) : EP X F Γ (.Subscript a b pos) d := fun σ G H Fs E Q q => by
  refine ⟨_, pe_dget (hu_of C.room) pe_w pe_w hs, ho σ G H Fs E _ fun G1 H1 w1 => hi σ G1 H1 Fs (E.grow w1) _ fun y G2 H2 w2 r2 => ?_⟩
  obtain rfl := r2.int_inv
  obtain ⟨es, h1, h2, h3⟩ := hk σ G2 H2 Fs ((E.grow w1).grow w2)
  obtain ⟨u, hu, ru⟩ := h3.val.1 d hl
  exact ⟨A, u, rfl, by rw [← hu]; exact DGet.k (k := Sum.inl m) h1, q _ _ _ (w1.trans w2) ru⟩
theorem ep_dgetL {m : Int} {od : Obj} (C : Cok X M F N sc kk) (ho : VP X F Γ a (.ref A)) (hi : EP X F Γ b (.int m)) (hk : Kn F Γ A (.lck od kvs)) (hl : dlook kvs m = some d) (hs : NoSl b := by exact fun _ _ => rfl) : EP X F Γ (.Subscript a b pos) d := fun σ G H Fs E Q q => by
  refine ⟨_, pe_dget (hu_of C.room) pe_w pe_w hs, ho σ G H Fs E _ fun G1 H1 w1 => hi σ G1 H1 Fs (E.grow w1) _ fun y G2 H2 w2 r2 => ?_⟩
  obtain rfl := r2.int_inv
  obtain ⟨es, h1, h2, h3⟩ := hk σ G2 H2 Fs ((E.grow w1).grow w2)
  obtain ⟨u, hu, ru⟩ := h3.val.1 d hl
  exact ⟨A, u, rfl, by rw [← hu]; exact .inl ⟨es, Sum.inl m, .inr ⟨od, h1⟩, rfl, rfl⟩, q _ _ _ (w1.trans w2) ru⟩
theorem ep_din {m : Int} (C : Cok X M F N sc kk) (ho : VP X F Γ b (.ref A)) (hi : EP X F Γ a (.int m)) (hk : Kn F Γ A (.dic kvs)) (hm : behindInMarks .In b = false := by rfl) : EP X F Γ (.Compare a [.In] [b] pos) (.bool (dlook kvs m).isSome) := fun σ G H Fs E Q q => by
  refine ⟨_, pe_cmp (pc_din (hu_of C.room) pe_w pe_w) hm, hi σ G H Fs E _ fun y G1 H1 w1 r1 => ho σ G1 H1 Fs (E.grow w1) _ fun G2 H2 w2 => ?_⟩
  obtain rfl := r1.int_inv
  obtain ⟨es, h1, h2, h3⟩ := hk σ G2 H2 Fs ((E.grow w1).grow w2)
  refine ⟨A, _, rfl, DGet.k (k := Sum.inl m) h1, ?_⟩
  rw [h3.val.2]
  exact q _ _ _ (w1.trans w2) .bl
theorem ep_dnotin {m : Int} (C : Cok X M F N sc kk) (ho : VP X F Γ b (.ref A)) (hi : EP X F Γ a (.int m)) (hk : Kn F Γ A (.dic kvs)) (hm : behindInMarks .NotIn b = false := by rfl) : EP X F Γ (.Compare a [.NotIn] [b] pos) (.bool (!(dlook kvs m).isSome)) := fun σ G H Fs E Q q => by
  refine ⟨_, pe_cmp (pc_dnotin (hu_of C.room) pe_w pe_w) hm, hi σ G H Fs E _ fun y G1 H1 w1 r1 => ho σ G1 H1 Fs (E.grow w1) _ fun G2 H2 w2 => ?_⟩
  obtain rfl := r1.int_inv
  obtain ⟨es, h1, h2, h3⟩ := hk σ G2 H2 Fs ((E.grow w1).grow w2)
  refine ⟨A, _, rfl, DGet.k (k := Sum.inl m) h1, ?_⟩
  rw [h3.val.2]
  exact q _ _ _ (w1.trans w2) .bl
theorem tp_dnotin {m : Int} (C : Cok X M F N sc kk) (ho : VP X F Γ b (.ref A)) (hi : EP X F Γ a (.int m)) (hk : Kn F Γ A (.dic kvs)) (hm : behindInMarks .NotIn b = false := by rfl) : TP_ X F Γ (.Compare a [.NotIn] [b] pos) (!(dlook kvs m).isSome) := fun σ G H Fs E Q q => by
  refine ⟨_, pt_cmp (pc_dnotin (hu_of C.room) pe_w pe_w) hm, hi σ G H Fs E _ fun y G1 H1 w1 r1 => ho σ G1 H1 Fs (E.grow w1) _ fun G2 H2 w2 => ?_⟩
  obtain rfl := r1.int_inv
  obtain ⟨es, h1, h2, h3⟩ := hk σ G2 H2 Fs ((E.grow w1).grow w2)
  refine ⟨A, _, rfl, DGet.k (k := Sum.inl m) h1, ?_⟩
  rw [h3.val.2]
  exact ⟨_, rfl, q _ _ (w1.trans w2)⟩
theorem ep_dlen (C : Cok X M F N sc kk) (hm : M.mg "len" = none) (ho : VP X F Γ a (.ref A)) (hk : Kn F Γ A (.dic kvs)) (hg : sc.names.lookup ("len" : Str) = some .globalImplicit) (pl : plainE a = true := by rfl) : EP X F Γ (.Call (.Name "len" p) [a] [] pos) (.int kvs.length) := fun σ G H Fs E Q q => by
  refine ⟨_, pe_callB call_lenD (gl_of C hg) (C.mgn hm) PySem.boot_len (pa_cons pe_w pa_nil (star_plain pl _ _)) (he := star_plain pl _ _), ho σ G H Fs E _ fun G1 H1 w1 => ?_⟩
  obtain ⟨es, h1, h2, h3⟩ := hk σ G1 H1 Fs (E.grow w1)
  refine ⟨A, es, rfl, h1, ?_⟩
  rw [h3.len]
  exact q _ _ _ w1 .int
theorem np_dlist (C : Cok X M F N sc kk) (hm : M.mg "list" = none) (ho : VP X F Γ a (.ref A)) (hk : Kn F Γ A (.dic kvs)) (hg : sc.names.lookup ("list" : Str) = some .globalImplicit) (pl : plainE a = true := by rfl) : NP X F Γ (.Call (.Name "list" p) [a] [] pos) ((kvs.map (·.1)).map .int) := fun σ G H Fs E Q q => by
  refine ⟨_, pe_callTy (call_list_dK C.calm) (gl_of C hg) (C.mgn hm) (by decide +kernel) (pa_cons pe_w pa_nil (star_plain pl _ _)) (he := star_plain pl _ _), ho σ G H Fs E _ fun G1 H1 w1 => ?_⟩
  obtain ⟨es, h1, h2, h3⟩ := hk σ G1 H1 Fs (E.grow w1)
  refine ⟨A, es, rfl, h1, fun z hz => ?_⟩
  rw [h3.keys]
  exact q z _ G1 _ (w1.trans (.raw w1.s hz)) (w1.h.none hz) (w1.s.none hz) upd_same (by rw [List.length_map, List.length_map]; exact h2) (.ints _)

/-! ### stores -/
/-- e.append(d), e an own list within a heaplet -/
theorem ws_appV (C : Cok X M F N sc kk) (E : Env F G H σ Γ Fs) (hx : Kx Γ i (.res v (rsH cs))) (hc : CSel cs n A (.lst ds)) (ho : VP X F Γ a (.ref A)) (h : EP X F Γ e d) (hlen : ds.length < cap) {Γ' : List Kd} (hΓ : Γ.set i (.res v (rsH (cs.set n (A, .lst (ds ++ [d]))))) = Γ') (q : ∀ G' H', Env F G' H' σ Γ' Fs → wSs X rest D σ H')
    (hb : attributeBase a "append" X.env (eval a X.env) = eval a X.env) (pl : plainE e = true := by rfl) (hline : (pa.endLine == pc.line) = true := by rfl) :
    wSs X (.Expr (.Call (.Attribute a "append" pa) [e] [] pc) pos :: rest) D σ H := by
  subst hΓ
  refine ws_cons ⟨_, ps_expr (pe_bm PySem.F.plainAttrs_list PySem.F.slot_list_append PySem.F.type_list_append mt_append pe_w (pa_cons pe_w pa_nil (star_plain pl _ _)) hb (few_one pl) hline (star_plain pl _ _) rfl), ?_⟩
  refine ho σ G H Fs E _ fun G1 H1 w1 => ?_
  have E1 := E.grow w1
  obtain ⟨vs, h1, h2, h3⟩ := kn_res hx hc σ G1 H1 Fs E1
  refine ⟨.inl ⟨rfl, vs, .inl (.inl h1)⟩, h σ G1 H1 Fs E1 _ fun u G2 H2 w2 r2 => ?_⟩
  have E2 := E1.grow w2
  obtain ⟨ws, h1, h2, h3⟩ := kn_res hx hc σ G2 H2 Fs E2
  refine ⟨A, ws, u, rfl, rfl, h1, by rw [h3.len]; exact cap_lt hlen, q G2 _ (E2.chgH (c' := .lst (ds ++ [d])) hx.kd hc ⟨_, upd_same, ?_, h3.append (.cons r2 .nil)⟩)⟩
  rw [List.length_append, List.length_singleton]; exact hlen
/-- o.f = e, e a whole number -/
theorem ws_fldI {m : Int} (C : Cok X M F N sc kk) (E : Env F G H σ Γ Fs) (hx : Kx Γ i (.res v (rsH cs))) (hc : CSel cs n A (.ins Cc dx fs)) (ho : VP X F Γ a (.ref A)) (h : EP X F Γ e (.int m)) (T : Cls M.K Cc) (na : NoAttr M.K Cc f) (hp : FPut f (.int m) fs fs') (hl : fs.length < 1000) {Γ' : List Kd} (hΓ : Γ.set i (.res v (rsH (cs.set n (A, .ins Cc dx fs')))) = Γ') (q : ∀ G' H', Env F G' H' σ Γ' Fs → wSs X rest D σ H')
    (hs : noComp e = true := by rfl) : wSs X (.Assign [.Attribute a f pa] e pos :: rest) D σ H := by
  subst hΓ
  refine ws_cons ⟨_, ps_fld pe_w pe_w (sw_no hs _ _ _), h σ G H Fs E _ fun u G1 H1 w1 r1 => ho σ G1 H1 Fs (E.grow w1) _ fun G2 H2 w2 => ?_⟩
  obtain rfl := r1.int_inv
  have E2 := (E.grow w1).grow w2
  refine ⟨A, Cc, dx, fs, rfl, kn_res hx hc σ G2 H2 Fs E2, by rw [C.hK]; exact T, by rw [C.hK]; exact na, hl, ?_⟩
  rw [hp.put]
  exact q G2 _ (E2.chgH (c' := .ins Cc dx fs') hx.kd hc upd_same)
/-- o.f = a new list -/
theorem ws_fldL (C : Cok X M F N sc kk) (E : Env F G H σ Γ Fs) (hx : Kx Γ i (.res v (rsH cs))) (hc : CSel cs n A (.ins Cc dx fs)) (ho : VP X F Γ a (.ref A)) (h : NP X F Γ e ds) (T : Cls M.K Cc) (na : NoAttr M.K Cc f) {gs : V → List (Str × V)} (hp : ∀ u, FPut f u fs (gs u)) (hl : fs.length < 1000) {Γ' : Addr → List Kd} (hΓ : ∀ u, Γ.set i (.res v (rsH ((u, .lst ds) :: cs.set n (A, .ins Cc dx (gs (.ref u)))))) = Γ' u) (q : ∀ u G' H' Fs', Env F G' H' σ (Γ' u) Fs' → wSs X rest D σ H')
    (hs : noComp e = true := by rfl) : wSs X (.Assign [.Attribute a f pa] e pos :: rest) D σ H := by
  refine ws_cons ⟨_, ps_fld pe_w pe_w (sw_no hs _ _ _), h σ G H Fs E _ fun u vs G1 H1 w1 hn hg h1 h2 h3 => ho σ G1 H1 Fs (E.grow w1) _ fun G2 H2 w2 => ?_⟩
  have E2 := (E.grow w1).grow w2
  have hfr : ∀ j, ¬ Fs j u := fun j z => (E.fp j u z).2.2.1 hn
  refine ⟨A, Cc, dx, fs, rfl, kn_res hx hc σ G2 H2 Fs E2, by rw [C.hK]; exact T, by rw [C.hK]; exact na, hl, ?_⟩
  rw [(hp _).put]
  have E3 := E2.chgH (c' := .ins Cc dx (gs (.ref u))) (o := .ins Cc dx (gs (.ref u))) hx.kd hc upd_same
  have hi3 : (Γ.set i (.res v (rsH (cs.set n (A, .ins Cc dx (gs (.ref u)))))))[i]? = some (.res v (rsH (cs.set n (A, .ins Cc dx (gs (.ref u)))))) := List.getElem?_set_self (List.getElem?_eq_some_iff.mp hx.kd).1
  have hA : H A ≠ none := (kn_res hx hc σ G H Fs E).some
  have hne : u ≠ A := fun z => hA (z ▸ hn)
  have h1' : H2 u = some (.lst vs) := w2.h _ _ h1
  obtain ⟨Fs', E4⟩ := E3.take (p := u) (c := .lst ds) hi3 ⟨vs, by rw [upd_ne hne]; exact h1', h2, h3.mono w2.g⟩ (E.bh.none hn) ((w2.o u (by rw [h1]; exact fun z => nomatch z)).trans hg) hfr
  rw [List.set_set, hΓ u] at E4
  exact q u G2 _ Fs' E4
end
end Rn

namespace Rn
open PySem PySem.Spec PyProof.Rows L2

/-! ## calls that change what they are handed -/
/-- the value that a kind pins -/
def Kd.pin : Kd → Option V
  | .own v _ => some v
  | .res v _ => some v
  | _ => none
def Kd.noA : Kd → Bool
  | .arg _ => false
  | _ => true
theorem KAt.re {F F' : Fr} {G H : Hp} {k : Kd} {x : Option V} {P : Addr → Prop} (h : KAt F G H k x P) (hn : k.noA = true) : KAt F' G H k x P := by
  cases k with
  | un => exact h
  | val d => exact h
  | own v ds => exact h
  | arg r => cases hn
  | raw v => exact h
  | res v r => exact h
theorem KAt.pinned {F : Fr} {G H : Hp} {k : Kd} {x : Option V} {P : Addr → Prop} {v : V} (h : KAt F G H k x P) (hp : k.pin = some v) : x = some v := by
  cases k with
  | own w ds => obtain rfl := Option.some.inj hp; exact h.1
  | res w r => obtain rfl := Option.some.inj hp; exact h.1
  | _ => cases hp
theorem KAt.cong {F : Fr} {G H : Hp} {k : Kd} {x : Option V} {P P' : Addr → Prop} (h : KAt F G H k x P) (e : ∀ a, P a ↔ P' a) : KAt F G H k x P' := by
  rw [← show P = P' from funext fun a => propext (e a)]; exact h
open Classical in
/-- a heap less what is handed on -/
noncomputable def offM (H : Hp) (Fs : Nat → Addr → Prop) (mu : Nat → Bool) : Hp := fun a => if ∃ i, mu i = true ∧ Fs i a then none else H a
theorem off_ex {H : Hp} {Fs : Nat → Addr → Prop} {mu : Nat → Bool} : Ex (offM H Fs mu) H := fun a o h => by
  unfold offM at h
  split at h
  · cases h
  · exact h
theorem off_of {H : Hp} {Fs : Nat → Addr → Prop} {mu : Nat → Bool} {a : Addr} (h : ∀ i, mu i = true → ¬ Fs i a) : offM H Fs mu a = H a := by
  unfold offM
  rw [if_neg]
  rintro ⟨i, h1, h2⟩
  exact h i h1 h2
theorem off_none {H : Hp} {Fs : Nat → Addr → Prop} {mu : Nat → Bool} {a : Addr} {i : Nat} (h : mu i = true) (h2 : Fs i a) : offM H Fs mu a = none := by
  unfold offM
  rw [if_pos ⟨i, h, h2⟩]
section
variable {F : Fr} {G H : Hp} {σ : L2.St} {Γ : List Kd} {Fs : Nat → Addr → Prop} {mu : Nat → Bool}
theorem Env.gB (E : Env F G H σ Γ Fs) : Ex G (offM H Fs mu) := fun a o h => by
  rw [off_of fun i _ z => ?_]
  · exact E.gh a o h
  · rw [(E.fp i a z).2.1] at h; cases h
theorem Env.bB (E : Env F G H σ Γ Fs) : Ex F.B (offM H Fs mu) := fun a o h => by
  rw [off_of fun i _ z => ?_]
  · exact E.bh a o h
  · rw [(E.fp i a z).1] at h; cases h
theorem off_grow {H' : Hp} (e : Ex H H') (E : Env F G H σ Γ Fs) : Ex (offM H Fs mu) (offM H' Fs mu) := fun a o h => by
  have hn : ¬ ∃ i, mu i = true ∧ Fs i a := fun ⟨i, h1, h2⟩ => by rw [off_none h1 h2] at h; cases h
  rw [off_of fun i h1 h2 => hn ⟨i, h1, h2⟩] at h ⊢
  exact e a o h
/-- a part of the names, otherwise placed -/
theorem Env.sub (E : Env F G H σ Γ Fs) (φ : Nat → Option Nat) {σ2 : L2.St} {Γ2 : List Kd} (hlen : σ2.length = Γ2.length) (h : ∀ j k, Γ2[j]? = some k → (φ j = none ∧ k = .un) ∨ ∃ i, φ j = some i ∧ Γ[i]? = some k ∧ σ2[j]?.join = σ[i]?.join)
    (inj : ∀ j j' i, φ j = some i → φ j' = some i → j = j') (dom : ∀ j i, φ j = some i → j < Γ2.length) : Env F G H σ2 Γ2 (fun j a => ∃ i, φ j = some i ∧ Fs i a) := by
  refine ⟨E.gh, E.bh, E.g0, E.go, hlen, fun j k hk => ?_, fun j l a ⟨i, h1, h2⟩ ⟨i', h3, h4⟩ => ?_, fun j a ⟨i, h1, h2⟩ => ?_⟩
  · rcases h j k hk with ⟨h1, rfl⟩ | ⟨i, h1, h2, h3⟩
    · intro a ⟨i, z, _⟩; rw [h1] at z; cases z
    · rw [h3]
      refine (E.sl i k h2).cong fun a => ⟨fun z => ⟨i, h1, z⟩, fun ⟨i', z, w⟩ => ?_⟩
      rw [h1] at z; obtain rfl := Option.some.inj z; exact w
  · obtain rfl := E.dis i i' a h2 h4
    exact inj j l i h1 h3
  · have f := E.fp i a h2
    exact ⟨f.1, f.2.1, f.2.2.1, dom j i h1⟩
theorem get_app {α : Type} {xs ys : List α} {j : Nat} (h : j < xs.length) : (xs ++ ys)[j]? = xs[j]? := List.getElem?_append_left h
/-- the last one is dropped -/
theorem Env.drop {x : Option V} {k : Kd} (E : Env F G H (σ ++ [x]) (Γ ++ [k]) Fs) : ∃ Fs', Env F G H σ Γ Fs' := by
  have hl : σ.length = Γ.length := by have := E.len; rw [List.length_append, List.length_append] at this; simpa using this
  refine ⟨_, E.sub (fun j => if j < Γ.length then some j else none) hl (fun j k' hk => ?_) (fun j j' i h1 h2 => ?_) (fun j i h => ?_)⟩
  · have hj := (List.getElem?_eq_some_iff.mp hk).1
    refine .inr ⟨j, if_pos hj, by rw [get_app hj]; exact hk, by rw [get_app (by rw [hl]; exact hj)]⟩
  · split at h1
    · split at h2
      · exact (Option.some.inj h1).trans (Option.some.inj h2).symm
      · cases h2
    · cases h1
  · split at h
    · assumption
    · cases h
/-- the last one comes to a name -/
theorem Env.move {x : Option V} {k : Kd} {i : Nat} (E : Env F G H (σ ++ [x]) (Γ ++ [k]) Fs) (hi : i < Γ.length) : ∃ Fs', Env F G H (σ.set i x) (Γ.set i k) Fs' := by
  have hl : σ.length = Γ.length := by have := E.len; rw [List.length_append, List.length_append] at this; simpa using this
  refine ⟨_, E.sub (fun j => if j = i then some Γ.length else if j < Γ.length then some j else none) (by rw [List.length_set, List.length_set]; exact hl) (fun j k' hk => ?_) (fun j j' l h1 h2 => ?_) (fun j l h => ?_)⟩
  · have hj := (List.getElem?_eq_some_iff.mp hk).1
    rw [List.length_set] at hj
    by_cases e : j = i
    · subst e
      rw [List.getElem?_set_self hi] at hk
      obtain rfl := Option.some.inj hk
      refine .inr ⟨Γ.length, if_pos rfl, by simp, ?_⟩
      rw [List.getElem?_set_self (by rw [hl]; exact hi), ← hl]; simp
    · rw [List.getElem?_set_ne (Ne.symm e)] at hk
      refine .inr ⟨j, by rw [if_neg e, if_pos hj], by rw [get_app hj]; exact hk, ?_⟩
      rw [List.getElem?_set_ne (Ne.symm e), get_app (by rw [hl]; exact hj)]
  · split at h1
    · split at h2
      · omega
      · split at h2
        · have := Option.some.inj h1; have := Option.some.inj h2; omega
        · cases h2
    · split at h1
      · split at h2
        · have := Option.some.inj h1; have := Option.some.inj h2; omega
        · split at h2
          · exact (Option.some.inj h1).trans (Option.some.inj h2).symm
          · cases h2
      · cases h1
  · rw [List.length_set]
    split at h
    · omega
    · split at h
      · assumption
      · cases h
/-- one more thing -/
theorem Env.more (E : Env F G H σ Γ Fs) {k : Kd} {x : Option V} {P : Addr → Prop} (hk : KAt F G H k x P) (hp : ∀ a, P a → F.B a = none ∧ G a = none ∧ H a ≠ none ∧ ∀ j, ¬ Fs j a) : Env F G H (σ ++ [x]) (Γ ++ [k]) (fun j a => if j = Γ.length then P a else Fs j a) := by
  have nf : ∀ a, ¬ Fs Γ.length a := fun a z => by have := (E.fp _ a z).2.2.2; omega
  refine ⟨E.gh, E.bh, E.g0, E.go, by rw [List.length_append, List.length_append, E.len]; rfl, fun j q hj => ?_, fun j l a h1 h2 => ?_, fun j a h => ?_⟩
  · by_cases e : j = Γ.length
    · subst e
      rw [List.getElem?_append_right (Nat.le_refl _), Nat.sub_self] at hj
      obtain rfl := Option.some.inj hj
      rw [List.getElem?_append_right (by rw [E.len]; exact Nat.le_refl _), E.len, Nat.sub_self]
      simpa using hk
    · have hj' : j < Γ.length := by
        have := (List.getElem?_eq_some_iff.mp hj).1
        rw [List.length_append, List.length_singleton] at this; omega
      rw [get_app hj'] at hj
      rw [get_app (by rw [E.len]; exact hj')]
      simpa [e] using E.sl j q hj
  · by_cases e1 : j = Γ.length <;> by_cases e2 : l = Γ.length
    · rw [e1, e2]
    · simp only [e1, if_true, e2, if_false] at h1 h2; exact absurd h2 ((hp a h1).2.2.2 l)
    · simp only [e1, if_false, e2, if_true] at h1 h2; exact absurd h1 ((hp a h2).2.2.2 j)
    · simp only [e1, if_false, e2] at h1 h2; exact E.dis j l a h1 h2
  · rw [List.length_append, List.length_singleton]
    by_cases e1 : j = Γ.length
    · simp only [e1, if_true] at h
      exact ⟨(hp a h).1, (hp a h).2.1, (hp a h).2.2.1, by omega⟩
    · simp only [e1, if_false] at h
      have f := E.fp j a h
      exact ⟨f.1, f.2.1, f.2.2.1, by omega⟩
end

/-- what is handed on: data (none), or a name's own thing (its place) -/
inductive Ag (F : Fr) (G B H : Hp) (Γ : List Kd) (mu : Nat → Bool) : List V → List Kd → List (Option Nat) → Prop
  | nil : Ag F G B H Γ mu [] [] []
  | dry {v : V} {k : Kd} {vs : List V} {ks : List Kd} {os : List (Option Nat)} : k.dry = true → KAt ⟨F.K, B, G⟩ G H k (some v) (fun _ => False) → Ag F G B H Γ mu vs ks os → Ag F G B H Γ mu (v :: vs) (k :: ks) (none :: os)
  | mt {v : V} {k : Kd} {i : Nat} {vs : List V} {ks : List Kd} {os : List (Option Nat)} : mu i = true → Γ[i]? = some k → k.pin = some v → Ag F G B H Γ mu vs ks os → Ag F G B H Γ mu (v :: vs) (k :: ks) (some i :: os)
theorem kdry_mono {F : Fr} {K : PySem.W.Frag} {G B H G' B' H' : Hp} {k : Kd} {x : Option V} (hd : k.dry = true) (h : KAt ⟨K, B, G⟩ G H k x (fun _ => False)) (g : Ex G G') (b : Ex B B') : KAt ⟨K, B', G'⟩ G' H' k x (fun _ => False) := by
  cases k with
  | un => exact h
  | val d => obtain ⟨h1, v, h2, h3⟩ := h; exact ⟨h1, v, h2, h3.mono g⟩
  | own v ds => cases hd
  | arg r => obtain ⟨h0, v, h1, h2⟩ := h; exact ⟨h0, v, h1, h2.mono g b⟩
  | raw v => exact h
  | res v r => cases hd
theorem Ag.mono {F : Fr} {G B H G' B' H' : Hp} {Γ Γ' : List Kd} {mu mu' : Nat → Bool} {vs : List V} {ks : List Kd} {os : List (Option Nat)} (h : Ag F G B H Γ mu vs ks os) (g : Ex G G') (b : Ex B B') (hm : ∀ i, mu i = true → mu' i = true) (hG : ∀ i k, mu i = true → Γ[i]? = some k → Γ'[i]? = some k) : Ag F G' B' H' Γ' mu' vs ks os := by
  induction h with
  | nil => exact .nil
  | dry hd hk _ ih => exact .dry hd (kdry_mono (F := F) hd hk g b) ih
  | mt h1 h2 h3 _ ih => exact .mt (hm _ h1) (hG _ _ h1 h2) h3 ih
section
variable {F : Fr} {G B H : Hp} {Γ : List Kd} {mu : Nat → Bool} {vs : List V} {ks : List Kd} {os : List (Option Nat)}
theorem Ag.len (h : Ag F G B H Γ mu vs ks os) : vs.length = ks.length ∧ os.length = ks.length := by
  induction h with
  | nil => exact ⟨rfl, rfl⟩
  | dry _ _ _ ih => simp [ih.1, ih.2]
  | mt _ _ _ _ ih => simp [ih.1, ih.2]
theorem Ag.get (h : Ag F G B H Γ mu vs ks os) : ∀ {j : Nat} {k : Kd}, ks[j]? = some k → (∃ v, vs[j]? = some v ∧ ((os[j]? = some none ∧ k.dry = true ∧ KAt ⟨F.K, B, G⟩ G H k (some v) (fun _ => False)) ∨ ∃ i, os[j]? = some (some i) ∧ mu i = true ∧ Γ[i]? = some k ∧ k.pin = some v)) := by
  induction h with
  | nil => intro j k h; simp at h
  | @dry v k0 vs ks os hd hk _ ih =>
    intro j k h
    cases j with
    | zero => obtain rfl : k0 = k := by simpa using h
              exact ⟨v, rfl, .inl ⟨rfl, hd, hk⟩⟩
    | succ j => exact ih (by simpa using h)
  | @mt v k0 i vs ks os h1 h2 h3 _ ih =>
    intro j k h
    cases j with
    | zero => obtain rfl : k0 = k := by simpa using h
              exact ⟨v, rfl, .inr ⟨i, rfl, h1, h2, h3⟩⟩
    | succ j => exact ih (by simpa using h)
end
/-- each place at most once -/
def OsNd (os : List (Option Nat)) : Prop := ∀ (j j' i : Nat), os[j]? = some (some i) → os[j']? = some (some i) → j = j'
/-- what the callee starts with -/
theorem Env.callee {F : Fr} {G H : Hp} {σ : L2.St} {Γ : List Kd} {Fs : Nat → Addr → Prop} {mu : Nat → Bool} {vs : List V} {ks : List Kd} {os : List (Option Nat)} (E : Env F G H σ Γ Fs) (A : Ag F G (offM H Fs mu) H Γ mu vs ks os) (nd : OsNd os) :
    Env ⟨F.K, offM H Fs mu, G⟩ G H (vs.map some) ks (fun j a => ∃ i, os[j]? = some (some i) ∧ Fs i a) := by
  have mus : ∀ (j i : Nat), os[j]? = some (some i) → mu i = true := fun j i h => by
    have hj : j < ks.length := by rw [← A.len.2]; exact (List.getElem?_eq_some_iff.mp h).1
    obtain ⟨v, _, q⟩ := A.get (List.getElem?_eq_getElem hj)
    rcases q with ⟨q, _⟩ | ⟨i', q, h1, _⟩
    · rw [q] at h; cases h
    · rw [q] at h; obtain rfl := Option.some.inj (Option.some.inj h); exact h1
  refine ⟨E.gh, off_ex, .refl G, fun _ _ => rfl, by rw [List.length_map, A.len.1], fun j k hk => ?_, fun j l a ⟨i, h1, h2⟩ ⟨i', h3, h4⟩ => ?_, fun j a ⟨i, h1, h2⟩ => ?_⟩
  · obtain ⟨v, hv, q⟩ := A.get hk
    have hx : (vs.map some)[j]?.join = some v := by rw [List.getElem?_map, hv]; rfl
    rw [hx]
    rcases q with ⟨q, hd, q2⟩ | ⟨i, q, h1, h2, h3⟩
    · refine q2.cong fun a => ⟨fun z => z.elim, fun ⟨i, z, _⟩ => ?_⟩
      rw [q] at z; cases z
    · have s := E.sl i k h2
      have e := s.pinned h3
      rw [e] at s
      have hn : k.noA = true := by cases k with | arg r => cases h3 | _ => rfl
      refine (s.re hn).cong fun a => ⟨fun z => ⟨i, q, z⟩, fun ⟨i', z, w⟩ => ?_⟩
      rw [q] at z; obtain rfl := Option.some.inj (Option.some.inj z); exact w
  · obtain rfl := E.dis i i' a h2 h4
    exact nd j l i h1 h3
  · have f := E.fp i a h2
    refine ⟨off_none (mus j i h1) h2, f.2.1, f.2.2.1, ?_⟩
    rw [← A.len.2]; exact (List.getElem?_eq_some_iff.mp h1).1
/-- the kinds behind the call -/
def upK (Γ : List Kd) : List (Option Nat) → List Kd → List Kd
  | [], _ => Γ
  | _ :: _, [] => Γ
  | some i :: os, k :: ks => upK (Γ.set i k) os ks
  | none :: os, _ :: ks => upK Γ os ks
theorem upK_len : ∀ {Γ : List Kd} {os : List (Option Nat)} {ks : List Kd}, (upK Γ os ks).length = Γ.length
  | Γ, some i :: os, k :: ks => by rw [upK, upK_len, List.length_set]
  | Γ, none :: os, _ :: ks => by rw [upK, upK_len]
  | Γ, [], ks => by unfold upK; rfl
  | Γ, _ :: _, [] => by unfold upK; rfl
theorem OsNd.tail {o : Option Nat} {os : List (Option Nat)} (h : OsNd (o :: os)) : OsNd os := fun j j' i h1 h2 => by
  have := h (j + 1) (j' + 1) i (by simpa using h1) (by simpa using h2); omega
theorem upK_no : ∀ {Γ : List Kd} {os : List (Option Nat)} {ks : List Kd} {i : Nat}, (∀ j : Nat, os[j]? ≠ some (some i)) → (upK Γ os ks)[i]? = Γ[i]?
  | Γ, some i' :: os, k :: ks, i, h => by
    have hne : i' ≠ i := fun z => h 0 (by rw [z]; rfl)
    rw [upK, upK_no (fun j z => h (j + 1) (by simpa using z)), List.getElem?_set_ne hne]
  | Γ, none :: os, _ :: ks, i, h => by rw [upK, upK_no (fun j z => h (j + 1) (by simpa using z))]
  | Γ, [], ks, i, h => by unfold upK; rfl
  | Γ, _ :: _, [], i, h => by unfold upK; rfl
theorem upK_at : ∀ {Γ : List Kd} {os : List (Option Nat)} {ks : List Kd} {i j : Nat} {k : Kd}, OsNd os → os[j]? = some (some i) → ks[j]? = some k → i < Γ.length → (upK Γ os ks)[i]? = some k
  | Γ, some i' :: os, k' :: ks, i, 0, k, nd, h, hk, hi => by
    obtain rfl := Option.some.inj (Option.some.inj (show some (some i') = some (some i) from h))
    obtain rfl : k' = k := by simpa using hk
    rw [upK, upK_no (fun j z => by have := nd 0 (j + 1) i' rfl (by simpa using z); omega), List.getElem?_set_self hi]
  | Γ, some i' :: os, k' :: ks, i, j + 1, k, nd, h, hk, hi => by
    rw [upK]
    exact upK_at nd.tail (by simpa using h) (by simpa using hk) (by rw [List.length_set]; exact hi)
  | Γ, none :: os, _ :: ks, i, 0, k, nd, h, hk, hi => by cases (show some none = some (some i) from h)
  | Γ, none :: os, _ :: ks, i, j + 1, k, nd, h, hk, hi => by
    rw [upK]
    exact upK_at nd.tail (by simpa using h) (by simpa using hk) hi
  | Γ, [], ks, i, j, k, nd, h, hk, hi => by simp at h
  | Γ, _ :: _, [], i, j, k, nd, h, hk, hi => by simp at hk
/-- what the caller has behind the call -/
theorem Env.back {F : Fr} {G H : Hp} {σ : L2.St} {Γ : List Kd} {Fs : Nat → Addr → Prop} {mu : Nat → Bool} {vs : List V} {ks ks' : List Kd} {os : List (Option Nat)} (E : Env F G H σ Γ Fs) (A : Ag F G (offM H Fs mu) H Γ mu vs ks os) (nd : OsNd os) (cov : ∀ i, mu i = true → ∃ j : Nat, os[j]? = some (some i))
    {G' H' : Hp} {xs : L2.St} {ls : List Kd} {Fs' : Nat → Addr → Prop} (E' : Env ⟨F.K, offM H Fs mu, G⟩ G' H' (vs.map some ++ xs) (ks' ++ ls) Fs') (hl : ks'.length = ks.length) (hn : ∀ k ∈ ks', k.noA = true) (hnl : ∀ k ∈ ls, k.noA = true) :
    ∃ Fs2, Env F G' H' (σ ++ xs) (upK Γ os ks' ++ ls) Fs2 := by
  have mus : ∀ (j i : Nat), os[j]? = some (some i) → mu i = true ∧ i < Γ.length ∧ ∃ v, vs[j]? = some v ∧ σ[i]?.join = some v := fun j i h => by
    have hj : j < ks.length := by rw [← A.len.2]; exact (List.getElem?_eq_some_iff.mp h).1
    obtain ⟨v, hv, q⟩ := A.get (List.getElem?_eq_getElem hj)
    rcases q with ⟨q, _⟩ | ⟨i', q, h1, h2, h3⟩
    · rw [q] at h; cases h
    · rw [q] at h; obtain rfl := Option.some.inj (Option.some.inj h)
      exact ⟨h1, (List.getElem?_eq_some_iff.mp h2).1, v, hv, (E.sl i' _ h2).pinned h3⟩
  have keep : ∀ i a, mu i = false → Fs i a → H' a = H a ∧ G' a = G a ∧ offM H Fs mu a ≠ none := fun i a hm ha => by
    have e : offM H Fs mu a = H a := off_of fun i' h1 h2 => by
      rw [E.dis i' i a h2 ha, hm] at h1; cases h1
    have nn : offM H Fs mu a ≠ none := by rw [e]; exact (E.fp i a ha).2.2.1
    exact ⟨(eq_of_ex E'.bh nn).trans e, E'.go a nn, nn⟩
  have lv : vs.length = ks'.length := by rw [hl]; exact A.len.1
  have lx : xs.length = ls.length := by
    have := E'.len
    rw [List.length_append, List.length_append, List.length_map] at this; omega
  have lz := E.len
  refine ⟨fun i a => (∃ j : Nat, os[j]? = some (some i) ∧ Fs' j a) ∨ (mu i = false ∧ i < σ.length ∧ Fs i a) ∨ ∃ m, i = σ.length + m ∧ Fs' (vs.length + m) a, E'.gh, E.bB.trans E'.bh, E.g0.trans E'.g0, fun a h => (E'.go a (E.bB.some h)).trans (E.go a h), ?_, fun i k hk => ?_, fun i l a h1 h2 => ?_, fun i a h => ?_⟩
  · rw [List.length_append, List.length_append, upK_len, lz, lx]
  · by_cases hi : i < σ.length
    · rw [get_app (by rw [upK_len, ← lz]; exact hi)] at hk
      rw [get_app hi]
      cases hm : mu i with
      | true =>
        obtain ⟨j, hj⟩ := cov i hm
        obtain ⟨_, hi2, v, hv, hs⟩ := mus j i hj
        have hjk : j < ks'.length := by rw [hl, ← A.len.2]; exact (List.getElem?_eq_some_iff.mp hj).1
        rw [upK_at nd hj (List.getElem?_eq_getElem hjk) hi2] at hk
        obtain rfl := Option.some.inj hk
        have s := E'.sl j _ (by rw [get_app hjk]; exact List.getElem?_eq_getElem hjk)
        have hx : (vs.map some ++ xs)[j]?.join = some v := by
          rw [get_app (by rw [List.length_map, lv]; exact hjk), List.getElem?_map, hv]; rfl
        rw [hx] at s
        rw [hs]
        refine (s.re (hn _ (List.getElem_mem hjk))).cong fun a => ⟨fun z => .inl ⟨j, hj, z⟩, ?_⟩
        rintro (⟨j', z, w⟩ | ⟨z, _⟩ | ⟨m, z, _⟩)
        · rw [nd j j' i hj z]; exact w
        · cases z
        · omega
      | false =>
        rw [upK_no fun j z => by have := (mus j i z).1; rw [hm] at this; cases this] at hk
        refine ((E.sl i k hk).mono E'.g0 fun a ha => (keep i a hm ha).1).cong fun a => ⟨fun z => .inr (.inl ⟨rfl, hi, z⟩), ?_⟩
        rintro (⟨j', z, w⟩ | ⟨z, _, w⟩ | ⟨m, z, _⟩)
        · have := (mus j' i z).1; rw [hm] at this; cases this
        · exact w
        · omega
    · have hi' : σ.length ≤ i := Nat.le_of_not_lt hi
      rw [List.getElem?_append_right (by rw [upK_len, ← lz]; exact hi'), upK_len, ← lz] at hk
      rw [List.getElem?_append_right hi']
      have s := E'.sl (vs.length + (i - σ.length)) k (by rw [List.getElem?_append_right (by rw [lv]; omega), lv, Nat.add_sub_cancel_left]; exact hk)
      rw [List.getElem?_append_right (by rw [List.length_map]; omega), List.length_map, Nat.add_sub_cancel_left] at s
      refine (s.re (hnl _ (List.mem_of_getElem? hk))).cong fun a => ⟨fun z => .inr (.inr ⟨i - σ.length, by omega, z⟩), ?_⟩
      rintro (⟨j', z, w⟩ | ⟨z, _, w⟩ | ⟨m, z, w⟩)
      · have := (mus j' i z).2.1; omega
      · omega
      · have : m = i - σ.length := by omega
        rw [← this]; exact w
  · have ub : ∀ (j i : Nat), os[j]? = some (some i) → j < vs.length := fun j i h => by rw [A.len.1, ← A.len.2]; exact (List.getElem?_eq_some_iff.mp h).1
    have cl : ∀ j i a, mu i = false → Fs i a → Fs' j a → False := fun j i a hm ha hf => (keep i a hm ha).2.2 (E'.fp j a hf).1
    rcases h1 with ⟨j, z, w⟩ | ⟨z, z2, w⟩ | ⟨m, z, w⟩
    · rcases h2 with ⟨j', z', w'⟩ | ⟨z', _, w'⟩ | ⟨m', z', w'⟩
      · have := E'.dis j j' a w w'
        subst this
        rw [z] at z'; exact Option.some.inj (Option.some.inj z')
      · exact (cl j l a z' w' w).elim
      · have := E'.dis j _ a w w'; have := ub j i z; omega
    · rcases h2 with ⟨j', z', w'⟩ | ⟨z', _, w'⟩ | ⟨m', z', w'⟩
      · exact (cl j' i a z w w').elim
      · exact E.dis i l a w w'
      · exact (cl _ i a z w w').elim
    · rcases h2 with ⟨j', z', w'⟩ | ⟨z', _, w'⟩ | ⟨m', z', w'⟩
      · have := E'.dis j' _ a w' w; have := ub j' l z'; omega
      · exact (cl _ l a z' w' w).elim
      · have := E'.dis _ _ a w w'; omega
  · rcases h with ⟨j, z, w⟩ | ⟨z, z2, w⟩ | ⟨m, z, w⟩
    · have f := E'.fp j a w
      refine ⟨E.bB.none f.1, f.2.1, f.2.2.1, ?_⟩
      have := (mus j i z).2.1
      rw [List.length_append, upK_len]; omega
    · have kk := keep i a z w
      have f := E.fp i a w
      refine ⟨f.1, kk.2.1.trans f.2.1, by rw [kk.1]; exact f.2.2.1, ?_⟩
      rw [List.length_append, upK_len]; omega
    · have f := E'.fp _ a w
      refine ⟨E.bB.none f.1, f.2.1, f.2.2.1, ?_⟩
      have := f.2.2.2
      rw [List.length_append] at this ⊢
      rw [upK_len]; omega
end Rn

namespace Rn
open PySem PySem.Spec PyProof.Rows L2

/-! ## promises of defs that change what they are handed -/
def spM (K : PySem.W.Frag) (R : List Kd → List Kd → (V → Kd) → Prop) (RX : List Kd → List Kd → Addr → Prop) : Sp := fun vs H Q E => ∃ B G Γ Fs, Env ⟨K, B, G⟩ G H (vs.map some) Γ Fs ∧
  ((∃ Γ' o, R Γ Γ' o ∧ ∀ v G' H' Fs', Env ⟨K, B, G⟩ G' H' (vs.map some ++ [some v]) (Γ' ++ [o v]) Fs' → Q v H') ∨
   (∃ Γ' C, RX Γ Γ' C ∧ ∀ G' H' Fs', Env ⟨K, B, G⟩ G' H' (vs.map some) Γ' Fs' → E (.ref C) none H'))
def noX : List Kd → List Kd → Addr → Prop := fun _ _ _ => False
structure FnM (M : Md) (k : Nat) (x : Str) (R : List Kd → List Kd → (V → Kd) → Prop) (RX : List Kd → List Kd → Addr → Prop) : Prop where
  ex : ∃ (f : Addr) (fd : FuncData) (ps : List Str), FnOk M.P M.w M.K M.mg M.base (L2.CX M.P M.w) k f fd ps (spM M.K R RX) ∧ M.mg x = some (.ref f) ∧ PySem.W.keepIn M.K (.ref f) = true ∧ Binds M.K fd ps []
/-- a method of the class at Cc -/
structure MeM (M : Md) (k : Nat) (Cc : Addr) (m : Str) (R : List Kd → List Kd → (V → Kd) → Prop) (RX : List Kd → List Kd → Addr → Prop) : Prop where
  ex : ∃ (f : Addr) (fd : FuncData) (ps : List Str), FnOk M.P M.w M.K M.mg M.base (L2.CX M.P M.w) k f fd ps (spM M.K R RX) ∧ Meth M.K Cc m f ∧ Binds M.K fd ps []
/-- a method that only reads -/
structure MeA (M : Md) (k : Nat) (Cc : Addr) (m : Str) (R : List Ar → PyData → Prop) (RX : List Ar → Addr → Prop) : Prop where
  ex : ∃ (f : Addr) (fd : FuncData) (ps : List Str), FnOk M.P M.w M.K M.mg M.base (L2.CX M.P M.w) k f fd ps (spX M.K R RX) ∧ Meth M.K Cc m f ∧ Binds M.K fd ps []
/-- a class that is made -/
structure MkM (M : Md) (k : Nat) (x : Str) (Cc : Addr) (R : List Kd → List Kd → (V → Kd) → Prop) (RX : List Kd → List Kd → Addr → Prop) : Prop where
  ex : ∃ (f : Addr) (fd : FuncData) (ps : List Str), FnOk M.P M.w M.K M.mg M.base (L2.CX M.P M.w) k f fd ps (spM M.K R RX) ∧ Mk M.K Cc f ∧ M.mg x = some (.ref Cc) ∧ Binds M.K fd ps []
/-- which of the kinds are kept -/
inductive FinK : List Kd → List Kd → Prop
  | nil {Γ : List Kd} : FinK Γ []
  | un {k : Kd} {Γ Γa : List Kd} : FinK Γ Γa → FinK (k :: Γ) (.un :: Γa)
  | keep {k : Kd} {Γ Γa : List Kd} : FinK Γ Γa → FinK (k :: Γ) (k :: Γa)
theorem FinK.get {Γ Γa : List Kd} (h : FinK Γ Γa) : ∀ {j : Nat} {k : Kd}, Γa[j]? = some k → k = .un ∨ Γ[j]? = some k := by
  induction h with
  | nil => intro j k h; simp at h
  | un _ ih =>
    intro j k h
    cases j with
    | zero => exact .inl (by simpa using h.symm)
    | succ j => exact (ih (j := j) (by simpa using h)).imp id (by simp)
  | keep _ ih =>
    intro j k h
    cases j with
    | zero => exact .inr (by simpa using h)
    | succ j => exact (ih (j := j) (by simpa using h)).imp id (by simp)
theorem FinK.len {Γ Γa : List Kd} (h : FinK Γ Γa) : Γa.length ≤ Γ.length := by
  induction h with
  | nil => exact Nat.zero_le _
  | un _ ih => simpa using ih
  | keep _ ih => simpa using ih
/-- the pinned values stay -/
inductive PinK : List Kd → List Kd → Prop
  | nil : PinK [] []
  | un {k : Kd} {Γ Γa : List Kd} : PinK Γ Γa → PinK (k :: Γ) (.un :: Γa)
  | pin {k k' : Kd} {Γ Γa : List Kd} : k'.pin.isSome = true → k.pin = k'.pin → PinK Γ Γa → PinK (k :: Γ) (k' :: Γa)
theorem PinK.len {Γ Γa : List Kd} (h : PinK Γ Γa) : Γa.length = Γ.length := by
  induction h with
  | nil => rfl
  | un _ ih => simp [ih]
  | pin _ _ _ ih => simp [ih]
theorem PinK.get {Γ Γa : List Kd} (h : PinK Γ Γa) : ∀ {j : Nat} {k' : Kd}, Γa[j]? = some k' → k' = .un ∨ ∃ k v, Γ[j]? = some k ∧ k.pin = some v ∧ k'.pin = some v := by
  induction h with
  | nil => intro j k h; simp at h
  | un _ ih =>
    intro j k h
    cases j with
    | zero => exact .inl (by simpa using h.symm)
    | succ j => exact (ih (j := j) (by simpa using h)).imp id (by simp)
  | @pin k0 k1 _ _ h1 h2 _ ih =>
    intro j k h
    cases j with
    | zero =>
      obtain rfl : k1 = k := by simpa using h
      obtain ⟨v, q⟩ := Option.isSome_iff_exists.mp h1
      exact .inr ⟨k0, v, by simp, by rw [h2, q], q⟩
    | succ j => exact (ih (j := j) (by simpa using h)).imp id (by simp)
theorem PinK.noA {Γ Γa : List Kd} (h : PinK Γ Γa) : ∀ k ∈ Γa, k.noA = true := fun k hk => by
  obtain ⟨j, hj⟩ := List.getElem?_of_mem hk
  rcases h.get hj with rfl | ⟨_, v, _, _, h3⟩
  · rfl
  · cases k with
    | arg r => cases h3
    | _ => rfl
/-- what is wanted of an answer -/
def mRt (Γa : List Kd) (o : V → Kd) (F : Fr) : VK := fun v H' => ∃ G' σ' Γ' Fs', Env F G' H' (σ' ++ [some v]) (Γ' ++ [o v]) Fs' ∧ FinK Γ' Γa
def mEnds (F : Fr) (Γa : List Kd) (o : V → Kd) : Ends := { nx := fun σ H => ∃ G' Γ' Fs', Env F G' H σ Γ' Fs' ∧ FinK Γ' Γa ∧ o = fun _ => .val .none, rt := mRt Γa o F }
/-- what is wished of an exception of the class at C -/
def mWish (F : Fr) (Γa : List Kd) (C : Addr) : WX := fun cls d σ H => cls = .ref C ∧ d = none ∧ ∃ G' Γ' Fs', Env F G' H σ Γ' Fs' ∧ FinK Γ' Γa
theorem mRt_mono {Γa : List Kd} {o : V → Kd} : RtMono (mRt Γa o) := fun F G1 g o v H ⟨G, σ, Γ', Fs', E, h⟩ => ⟨G, σ, Γ', Fs', ⟨E.gh, E.bh, g.trans E.g0, fun a h => (E.go a h).trans (o a h), E.len, E.sl, E.dis, E.fp⟩, h⟩
def Kd.isUn : Kd → Bool
  | .un => true
  | _ => false
/-- from a body's end to the promise -/
theorem fin_env {F : Fr} {G H G0 H0 : Hp} {σ σx : L2.St} {Γ Γa Γ0 ls : List Kd} {Fs Fs0 : Nat → Addr → Prop} {vs : List V} (E0 : Env F G0 H0 (vs.map some) Γ0 Fs0) (E : Env F G H (σ ++ σx) (Γ ++ ls) Fs) (hf : FinK Γ Γa) (hp : PinK Γ0 Γa) (hx : σx.length = ls.length) : ∃ Fs', Env F G H (vs.map some ++ σx) (Γa ++ ls) Fs' := by
  have l0 := E0.len
  have l1 := E.len
  rw [List.length_append, List.length_append] at l1
  rw [List.length_map] at l0
  have lΓ : σ.length = Γ.length := by omega
  have la := hp.len
  have lf := hf.len
  refine ⟨_, E.sub (fun j => if j < Γa.length then (if (Γa.getD j .un).isUn = true then none else some j) else if j < Γa.length + ls.length then some (Γ.length + (j - Γa.length)) else none) (by rw [List.length_append, List.length_append, List.length_map]; omega) (fun j k hk => ?_) (fun j j' i h1 h2 => ?_) (fun j i h => ?_)⟩
  · by_cases hj : j < Γa.length
    · rw [get_app hj] at hk
      have hgd : ∀ k, Γa[j]? = some k → Γa.getD j .un = k := fun k z => by rw [List.getD_eq_getElem?_getD, z]; rfl
      rcases hf.get hk with rfl | h
      · exact .inl ⟨by rw [if_pos hj, hgd _ hk]; rfl, rfl⟩
      · rcases hp.get hk with rfl | ⟨k0, v, h1, h2, h3⟩
        · exact .inl ⟨by rw [if_pos hj, hgd _ hk]; rfl, rfl⟩
        · have hjΓ : j < Γ.length := (List.getElem?_eq_some_iff.mp h).1
          refine .inr ⟨j, ?_, by rw [get_app hjΓ]; exact h, ?_⟩
          · rw [if_pos hj, hgd _ hk]
            cases k with
            | un => cases h3
            | _ => rfl
          · have s0 := (E0.sl j k0 h1).pinned h2
            have s1 := (E.sl j k (by rw [get_app hjΓ]; exact h)).pinned h3
            rw [s1, get_app (by rw [List.length_map]; omega)]
            exact s0
    · have hj' : j < Γa.length + ls.length := by
        have := (List.getElem?_eq_some_iff.mp hk).1
        rw [List.length_append] at this; exact this
      refine .inr ⟨Γ.length + (j - Γa.length), by simp [hj, hj'], ?_, ?_⟩
      · rw [List.getElem?_append_right (by omega)] at hk
        rw [List.getElem?_append_right (by omega), Nat.add_sub_cancel_left]; exact hk
      · rw [List.getElem?_append_right (by rw [List.length_map]; omega), List.length_map, List.getElem?_append_right (by omega)]
        congr 2
        omega
  · have key : ∀ j i, (if j < Γa.length then (if (Γa.getD j .un).isUn = true then none else some j) else if j < Γa.length + ls.length then some (Γ.length + (j - Γa.length)) else none) = some i → (j < Γa.length ∧ i = j) ∨ (Γa.length ≤ j ∧ i = Γ.length + (j - Γa.length)) := fun j i h => by
      split at h
      · rename_i hj
        split at h
        · cases h
        · exact .inl ⟨hj, (Option.some.inj h).symm⟩
      · rename_i hj
        split at h
        · exact .inr ⟨by omega, (Option.some.inj h).symm⟩
        · cases h
    rcases key j i h1 with ⟨a, b⟩ | ⟨a, b⟩ <;> rcases key j' i h2 with ⟨c, d⟩ | ⟨c, d⟩ <;> omega
  · rw [List.length_append]
    split at h
    · omega
    · split at h
      · omega
      · cases h
theorem map_start {N : List Str} {vs : List V} : L2.start N vs = vs.map some ++ List.replicate (N.length - vs.length) none := rfl
theorem Env.padded {F : Fr} {G H : Hp} {σ : L2.St} {Γ : List Kd} {Fs : Nat → Addr → Prop} (E : Env F G H σ Γ Fs) (n : Nat) : Env F G H (σ ++ List.replicate n none) (Γ ++ List.replicate n .un) Fs := by
  refine ⟨E.gh, E.bh, E.g0, E.go, by simp [E.len], fun j k hk => ?_, E.dis, fun i a h => ?_⟩
  · by_cases hj : j < Γ.length
    · rw [get_app hj] at hk
      rw [get_app (by rw [E.len]; exact hj)]
      exact E.sl j k hk
    · rw [List.getElem?_append_right (by omega), List.getElem?_replicate] at hk
      split at hk
      · obtain rfl := Option.some.inj hk
        intro a z
        have := (E.fp j a z).2.2.2; omega
      · cases hk
  · have f := E.fp i a h
    exact ⟨f.1, f.2.1, f.2.2.1, by rw [List.length_append]; omega⟩
theorem mut_def {M : Md} {x qual : Str} {st : Stmt} {f : Addr} {fd : FuncData} {N ps : List Str} {k : Nat} {R : List Kd → List Kd → (V → Kd) → Prop} {RX : List Kd → List Kd → Addr → Prop} (n : Nat) (Fu : Fun M.K x qual st f fd) (S : FnScope N ps (defScope st))
    (hlen : ∀ Γ Γ' o, R Γ Γ' o → Γ.length = ps.length ∧ PinK Γ Γ') (hlenX : ∀ Γ Γ' C, RX Γ Γ' C → Γ.length = ps.length ∧ PinK Γ Γ') (hn : N.length = ps.length + n)
    (body : ∀ (X : Cx) (F : Fr) (σ : L2.St) (H : Hp) (Fs : Nat → Addr → Prop) (Γ Γ' : List Kd) (o : V → Kd) (Γ1 : List Kd), Cok X M F N (defScope st) k → Bok X → R Γ Γ' o → Γ ++ List.replicate n .un = Γ1 → Env F F.G0 H σ Γ1 Fs → wSs X (defBody st) (mEnds F Γ' o) σ H)
    (bodyX : ∀ (X : Cx) (F : Fr) (σ : L2.St) (H : Hp) (Fs : Nat → Addr → Prop) (Γ Γ' : List Kd) (C : Addr) (Γ1 : List Kd), Cok X M F N (defScope st) k → Bok X → Takes X (mWish F Γ' C) → RX Γ Γ' C → Γ ++ List.replicate n .un = Γ1 → Env F F.G0 H σ Γ1 Fs → wSs X (defBody st) { nx := fun _ _ => False, rt := fun _ _ => False } σ H) :
    FnOk M.P M.w M.K M.mg M.base (L2.CX M.P M.w) (k + 1) f fd ps (spM M.K R RX) := by
  have vl : ∀ (vs : List V) (Γ : List Kd), (vs.map some).length = Γ.length → Γ.length = ps.length → vs.length = ps.length := fun vs Γ h1 h2 => by
    rw [List.length_map] at h1; rw [h1, h2]
  refine Fu.okX S (fun vs H Q E h => ?_) (fun cdv A outer s H vs Q E hr h => ?_)
  · obtain ⟨B, G, Γ, Fs, En, h1⟩ := h
    rcases h1 with ⟨Γ', o, h1, _⟩ | ⟨Γ', C, h1, _⟩
    · exact vl vs Γ En.len (hlen _ _ _ h1).1
    · exact vl vs Γ En.len (hlenX _ _ _ h1).1
  · obtain ⟨B, G, Γ, Fs, En, h1⟩ := h
    have hl : Γ.length = ps.length := by
      rcases h1 with ⟨Γ', o, h1, _⟩ | ⟨Γ', C, h1, _⟩
      · exact (hlen _ _ _ h1).1
      · exact (hlenX _ _ _ h1).1
    have En2 : Env ⟨M.K, B, G⟩ G H (L2.start N vs) (Γ ++ List.replicate n .un) Fs := by
      have e : N.length - vs.length = n := by have := vl vs Γ En.len hl; omega
      rw [map_start, e]
      exact En.padded n
    rcases h1 with ⟨Γ', o, h1, q⟩ | ⟨Γ', C, h1, q⟩
    · obtain ⟨t, p, h3⟩ := body ((cxOf (L2.CX M.P M.w) M.P M.w M.K M.mg M.base N qual (defScope st) f cdv A outer s H E).nox) ⟨M.K, B, G⟩ (L2.start N vs) H Fs Γ Γ' o _ ⟨rfl, rfl, rfl, rfl, rfl, rfl, rfl, rfl, S.nd, rfl, hr⟩ ⟨fun _ => rfl, PassesOwn.never, rfl, rfl⟩ h1 rfl En2
      have fin : ∀ v H' G' σ' Γ2 Fs', Env ⟨M.K, B, G⟩ G' H' (σ' ++ [some v]) (Γ2 ++ [o v]) Fs' → FinK Γ2 Γ' → Q v H' := fun v H' G' σ' Γ2 Fs' E2 hf => by
        obtain ⟨Fs2, E3⟩ := fin_env En E2 hf (hlen _ _ _ h1).2 rfl
        exact q v G' H' Fs2 E3
      refine ⟨fun D σ H' => t (mEnds ⟨M.K, B, G⟩ Γ' o) σ H' ∧ D = { nx := fun _ H' => Q .non H', rt := Q }, ⟨fun pins s1 σ1 H1 D I hw => ?_⟩, h3, rfl⟩
      obtain ⟨hw, rfl⟩ := hw
      refine thn (p.nox.run pins s1 σ1 H1 _ I hw) fun fl s2 hq => ?_
      cases fl with
      | next =>
        obtain ⟨σ', H', I', G', Γ2, Fs', E2, hf, rfl⟩ := hq
        exact ⟨σ', H', I', fin .non H' G' σ' Γ2 _ (E2.more (k := .val .none) (x := some .non) (P := fun _ => False) ⟨fun _ z => z, _, rfl, .non⟩ fun _ z => z.elim) hf⟩
      | ret u =>
        obtain ⟨v, σ', H', I', r, G', σ2, Γ2, Fs', E2, hf⟩ := hq
        exact ⟨v, σ', H', I', r, fin v H' G' σ2 Γ2 Fs' E2 hf⟩
      | brk => exact hq
      | cont => exact hq
    · obtain ⟨t, p, h3⟩ := bodyX (cxOf (L2.CX M.P M.w) M.P M.w M.K M.mg M.base N qual (defScope st) f cdv A outer s H E) ⟨M.K, B, G⟩ (L2.start N vs) H Fs Γ Γ' C _ ⟨rfl, rfl, rfl, rfl, rfl, rfl, rfl, rfl, S.nd, rfl, hr⟩ ⟨fun _ => rfl, passes_of rfl, rfl, rfl⟩
        ((takes_of rfl rfl rfl rfl).imp (fun cls d σ H' ⟨h4, h2, G', Γ2, Fs', E2, hf⟩ => by
          rw [h4, h2]
          have E2' : Env ⟨M.K, B, G⟩ G' H' (σ ++ []) (Γ2 ++ []) Fs' := by rw [List.append_nil, List.append_nil]; exact E2
          obtain ⟨Fs2, E3⟩ := fin_env En E2' hf (hlenX _ _ _ h1).2 rfl
          rw [List.append_nil, List.append_nil] at E3
          exact q G' H' Fs2 E3)) h1 rfl En2
      refine ⟨fun D σ H' => t { nx := fun _ _ => False, rt := fun _ _ => False } σ H' ∧ D = { nx := fun _ H' => Q .non H', rt := Q }, ⟨fun pins s1 σ1 H1 D I hw => ?_⟩, h3, rfl⟩
      obtain ⟨hw, rfl⟩ := hw
      refine thn (p.run pins s1 σ1 H1 _ I hw) fun fl s2 hq => ?_
      cases fl with
      | next => obtain ⟨σ', H', I', z⟩ := hq; exact z.elim
      | ret u => obtain ⟨v, σ', H', I', r, z⟩ := hq; exact z.elim
      | brk => obtain ⟨σ', H', I', z⟩ := hq; exact z.elim
      | cont => obtain ⟨σ', H', I', z⟩ := hq; exact z.elim
end Rn

namespace Rn
open PySem PySem.Spec PyProof.Rows L2

/-! ## arguments of such calls -/
def muO (os : List (Option Nat)) (i : Nat) : Bool := os.contains (some i)
theorem muO_cov {os : List (Option Nat)} : ∀ i, muO os i = true → ∃ j : Nat, os[j]? = some (some i) := fun i h => List.getElem?_of_mem (by simpa [muO] using h)
def MA (X : Cx) (F : Fr) (Γ : List Kd) (mu : Nat → Bool) (es : List Expr) (ks : List Kd) (os : List (Option Nat)) : Prop := ∀ σ G H Fs, Env F G H σ Γ Fs → ∀ Q : List V → Hp → Prop, (∀ vs G' H', Grow G H G' H' → Ag F G' (offM H' Fs mu) H' Γ mu vs ks os → Q vs H') → wA X es σ H Q
/-- a changing expression: the answer comes behind the names -/
def ME (X : Cx) (F : Fr) (Γ : List Kd) (e : Expr) (o : V → Kd) (Γ' : List Kd) : Prop := ∀ σ G H Fs, Env F G H σ Γ Fs → ∀ Q : VK, (∀ v G' H' Fs', Env F G' H' (σ ++ [some v]) (Γ' ++ [o v]) Fs' → Q v H') → wE X e σ H Q
def MT (X : Cx) (F : Fr) (Γ : List Kd) (c : Expr) (b : Bool) (Γ' : List Kd) : Prop := ∀ σ G H Fs, Env F G H σ Γ Fs → ∀ Q : Bool → Hp → Prop, (∀ G' H' Fs', Env F G' H' σ Γ' Fs' → Q b H') → wT X c σ H Q
def MW (X : Cx) (F : Fr) (Γ : List Kd) (c : Expr) (b : Bool) (Γ' : List Kd) : Prop := ∀ σ G H Fs, Env F G H σ Γ Fs → ∀ Q : Bool → Hp → Prop, (∀ G' H' Fs', Env F G' H' σ Γ' Fs' → Q b H') → ∃ t, PW X c t ∧ t σ H Q
/-- an object that is read -/
def OV (X : Cx) (F : Fr) (Γ : List Kd) (e : Expr) (r : Ro) : Prop := ∀ σ G H Fs, Env F G H σ Γ Fs → ∀ Q : VK, (∀ v G' H', Grow G H G' H' → r.at_ G' H' v → Q v H') → wE X e σ H Q
/-- it is an instance of the class at Cc, without an attribute m -/
def InsO (r : Ro) (Cc : Addr) (m : Str) : Prop := ∀ G H v, r.at_ G H v → ∃ a dx fs, v = .ref a ∧ H a = some (.ins Cc dx fs) ∧ fs.lookup m = none
def InsR (v : V) (r : Rs) (Cc : Addr) (m : Str) : Prop := ∀ G H P, r.at_ G H v P → ∃ a dx fs, v = .ref a ∧ H a = some (.ins Cc dx fs) ∧ fs.lookup m = none
/-- the thing of one's own, read -/
def Rd_ (v : V) (r : Rs) (ro : Ro) : Prop := ∀ (G H B : Hp) P, r.at_ G H v P → (∀ a, P a → B a = H a) → ro.at_ G B v
theorem rd_H {v : V} {cs cs' : List (Addr × Cl)} (h : ∀ p ∈ cs', p ∈ cs) : Rd_ v (rsH cs) (roH v cs') := fun G H B P h1 h2 => ⟨rfl, fun p hp => (h1.2.2 p (h p hp)).loc (.refl G) (h2 _ ((h1.1 _).mpr (List.mem_map.mpr ⟨p, h p hp, rfl⟩)))⟩

section
variable {X : Cx} {M : Md} {F : Fr} {N : List Str} {sc scope : Scope} {kk : Nat} {Γ Γ1 Γ' : List Kd} {e a b c elt src : Expr} {es ifs : List Expr} {rest body : List Stmt} {st : Stmt} {D : Ends} {σ : L2.St} {G H : Hp} {Fs : Nat → Addr → Prop} {d da db d1 d2 : PyData} {ds : List PyData} {p pos px py pa pc : Pos} {x y f m : Str} {i j n : Nat} {k k2 : Kd} {v : V} {q A B0 dx Cc : Addr} {fs fs' : List (Str × V)} {cs : List (Addr × Cl)} {cl : Cl} {kvs : List (Int × PyData)} {mu : Nat → Bool} {ks ks' : List Kd} {os : List (Option Nat)} {o : V → Kd} {r : Rs} {ro : Ro}
theorem ma_nil : MA X F Γ mu [] [] [] := fun σ G H Fs E Q q => ⟨_, pa_nil, q [] _ _ (.refl E.gh) .nil⟩
theorem ma_dry (hd : k.dry = true) (h : ∀ σ G H Fs, Env F G H σ Γ Fs → ∀ Q : VK, (∀ v G' H', Grow G H G' H' → KAt ⟨F.K, offM H' Fs mu, G'⟩ G' H' k (some v) (fun _ => False) → Q v H') → wE X e σ H Q) (hr : MA X F Γ mu es ks os) (pl : plainE e = true := by rfl) : MA X F Γ mu (e :: es) (k :: ks) (none :: os) := fun σ G H Fs E Q q => by
  refine ⟨_, pa_cons pe_w pa_w (star_plain pl _ _), h σ G H Fs E _ fun v G1 H1 w1 r1 => hr σ G1 H1 Fs (E.grow w1) _ fun vs G2 H2 w2 r2 => q _ _ _ (w1.trans w2) (.dry hd (kdry_mono (F := F) hd r1 w2.g (off_grow w2.h (E.grow w1))) r2)⟩
theorem ma_dat (h : EP X F Γ e d) (hr : MA X F Γ mu es ks os) (pl : plainE e = true := by rfl) : MA X F Γ mu (e :: es) (.val d :: ks) (none :: os) :=
  ma_dry rfl (fun σ G H Fs E Q q => h σ G H Fs E Q fun v G' H' w r => q v G' H' w ⟨fun _ z => z, v, rfl, r⟩) hr pl
/-- a datum list where a list that is read is wanted -/
theorem ma_lstE (h : EP X F Γ e (.list ds)) (hr : MA X F Γ mu es ks os) (pl : plainE e = true := by rfl) : MA X F Γ mu (e :: es) (.arg (.lst ds) :: ks) (none :: os) :=
  ma_dry rfl (fun σ G H Fs E Q q => h σ G H Fs E Q fun v G' H' w r => by
    obtain ⟨a, vs, rfl, h1, h2, h3⟩ := r.lst_inv
    exact q _ G' H' w ⟨fun _ z => z, _, rfl, a, vs, rfl, (E.grow w).gB _ _ h1, h2, h3⟩) hr pl
/-- one's own list, read -/
theorem ma_own (C : Cok X M F N sc kk) (h : Sel N Γ x i (.own v ds)) (hm : mu i = false) (hv : Vis sc x) (hr : MA X F Γ mu es ks os) (hd : (x == ("__debug__" : Str)) = false) (hcd : (x == ("__classdict__" : Str)) = false) : MA X F Γ mu (.Name x px :: es) (.arg (.lst ds) :: ks) (none :: os) :=
  ma_dry rfl (fun σ G H Fs E Q q => by
    obtain ⟨h1, a, vs, rfl, h2, h3, h4, h5⟩ := E.sl i _ h.k
    refine w_name C h hv h1 (q _ G H (.refl E.gh) ⟨fun _ z => z, _, rfl, a, vs, rfl, ?_, h4, h5⟩) hd hcd
    show offM H Fs mu a = some (HO.lst vs)
    rw [off_of fun i' z1 z2 => ?_]
    · exact h3
    · rw [E.dis i' i a z2 ((h2 a).mpr rfl), hm] at z1; cases z1) hr rfl
theorem ma_arg {ar : Ar} (C : Cok X M F N sc kk) (h : Sel N Γ x i (.arg ar)) (hv : Vis sc x) (hr : MA X F Γ mu es ks os) (hd : (x == ("__debug__" : Str)) = false) (hcd : (x == ("__classdict__" : Str)) = false) : MA X F Γ mu (.Name x px :: es) (.arg ar :: ks) (none :: os) :=
  ma_dry rfl (fun σ G H Fs E Q q => by
    obtain ⟨_, v, h1, h2⟩ := E.sl i _ h.k
    exact w_name C h hv h1 (q v G H (.refl E.gh) ⟨fun _ z => z, v, rfl, h2.mono (.refl _) E.bB⟩) hd hcd) hr rfl
/-- one's own thing, read -/
theorem ma_obj (C : Cok X M F N sc kk) (h : Sel N Γ x i (.res v r)) (hm : mu i = false) (hi : Rd_ v r ro) (hv : Vis sc x) (hr : MA X F Γ mu es ks os) (hd : (x == ("__debug__" : Str)) = false) (hcd : (x == ("__classdict__" : Str)) = false) : MA X F Γ mu (.Name x px :: es) (.arg (.obj ro) :: ks) (none :: os) :=
  ma_dry rfl (fun σ G H Fs E Q q => by
    obtain ⟨h1, h2⟩ := E.sl i _ h.k
    refine w_name C h hv h1 (q _ G H (.refl E.gh) ⟨fun _ z => z, _, rfl, hi G H _ _ h2 fun a ha => off_of fun i' z1 z2 => ?_⟩) hd hcd
    rw [E.dis i' i a z2 ha, hm] at z1; cases z1) hr rfl
/-- one's own thing, handed on -/
theorem ma_mt (C : Cok X M F N sc kk) (h : Sel N Γ x i k) (hp : k.pin = some v) (hm : mu i = true) (hv : Vis sc x) (hr : MA X F Γ mu es ks os) (hd : (x == ("__debug__" : Str)) = false) (hcd : (x == ("__classdict__" : Str)) = false) : MA X F Γ mu (.Name x px :: es) (k :: ks) (some i :: os) := fun σ G H Fs E Q q => by
  refine ⟨_, pa_cons pe_w pa_w, ?_⟩
  refine w_name C h hv ((E.sl i _ h.k).pinned hp) ?_ hd hcd
  exact hr σ G H Fs E _ fun vs G2 H2 w2 r2 => q _ _ _ w2 (.mt hm h.k hp r2)

/-! ### the calls -/
theorem FnM.at_ {R : List Kd → List Kd → (V → Kd) → Prop} {RX : List Kd → List Kd → Addr → Prop} {k : Nat} (C : Cok X M F N sc kk) (h : FnM M k x R RX) : ∃ (f : Addr) (fd : FuncData) (ps : List Str), FnOk X.prog X.w X.K X.mg X.base (L2.CX X.prog X.w) k f fd ps (spM F.K R RX) ∧ X.mg x = some (.ref f) ∧ PySem.W.keepIn X.K (.ref f) = true ∧ Binds X.K fd ps [] := by
  rw [C.hP, C.hw, C.hK, C.hF, C.hM, C.hb]
  exact h.ex
theorem MeM.at_ {R : List Kd → List Kd → (V → Kd) → Prop} {RX : List Kd → List Kd → Addr → Prop} {k : Nat} (C : Cok X M F N sc kk) (h : MeM M k Cc m R RX) : ∃ (f : Addr) (fd : FuncData) (ps : List Str), FnOk X.prog X.w X.K X.mg X.base (L2.CX X.prog X.w) k f fd ps (spM F.K R RX) ∧ Meth X.K Cc m f ∧ Binds X.K fd ps [] := by
  rw [C.hP, C.hw, C.hK, C.hF, C.hM, C.hb]
  exact h.ex
theorem MeA.at_ {R : List Ar → PyData → Prop} {RX : List Ar → Addr → Prop} {k : Nat} (C : Cok X M F N sc kk) (h : MeA M k Cc m R RX) : ∃ (f : Addr) (fd : FuncData) (ps : List Str), FnOk X.prog X.w X.K X.mg X.base (L2.CX X.prog X.w) k f fd ps (spX F.K R RX) ∧ Meth X.K Cc m f ∧ Binds X.K fd ps [] := by
  rw [C.hP, C.hw, C.hK, C.hF, C.hM, C.hb]
  exact h.ex
theorem MkM.at_ {R : List Kd → List Kd → (V → Kd) → Prop} {RX : List Kd → List Kd → Addr → Prop} {k : Nat} (C : Cok X M F N sc kk) (h : MkM M k x Cc R RX) : ∃ (f : Addr) (fd : FuncData) (ps : List Str), FnOk X.prog X.w X.K X.mg X.base (L2.CX X.prog X.w) k f fd ps (spM F.K R RX) ∧ Mk X.K Cc f ∧ X.mg x = some (.ref Cc) ∧ Binds X.K fd ps [] := by
  rw [C.hP, C.hw, C.hK, C.hF, C.hM, C.hb]
  exact h.ex
/-- f(..) -/
theorem me_call {R : List Kd → List Kd → (V → Kd) → Prop} {RX : List Kd → List Kd → Addr → Prop} {k : Nat} (C : Cok X M F N sc kk) (h : FnM M k x R RX) (hk : k ≤ kk) (hg : sc.names.lookup x = some .globalImplicit) (ha : MA X F Γ (muO os) (e :: es) ks os) (nd : OsNd os) (hr : R ks ks' o) (hp : PinK ks ks') (ho : ∀ v, (o v).noA = true) (hΓ : upK Γ os ks' = Γ')
    (pl : plainE e = true := by rfl) (pls : es.all plainE = true := by rfl) (hd : (x == ("__debug__" : Str)) = false := by decide) : ME X F Γ (.Call (.Name x p) (e :: es) [] pos) o Γ' := fun σ G H Fs E Q q => by
  subst hΓ
  obtain ⟨f, fd, ps, h1, h2, h3, h4⟩ := h.at_ C
  refine ⟨_, pe_call h1 (C.room.mono hk) (gl_of C hg) h2 h3 h4 .nil passL pa_w hd (star_plain pl _ _) (back_plain pls), ?_⟩
  refine ha σ G H Fs E _ fun vs G1 H1 w1 r1 => ?_
  rw [List.append_nil]
  have E1 := E.grow w1
  refine ⟨_, _, _, _, E1.callee r1 nd, .inl ⟨ks', o, hr, fun v G2 H2 Fs2 E2 => ?_⟩⟩
  obtain ⟨Fs3, E3⟩ := E1.back r1 nd muO_cov E2 hp.len hp.noA (by intro k hk; rw [List.mem_singleton] at hk; rw [hk]; exact ho v)
  exact q v G2 H2 Fs3 E3
/-- a call that raises -/
theorem w_callM {R : List Kd → List Kd → (V → Kd) → Prop} {RX : List Kd → List Kd → Addr → Prop} {k : Nat} {C0 : Addr} {W : WX} {Q : VK} (C : Cok X M F N sc kk) (h : FnM M k x R RX) (hk : k ≤ kk) (hg : sc.names.lookup x = some .globalImplicit) (tk : Takes X W) (ha : MA X F Γ (muO os) (e :: es) ks os) (nd : OsNd os) (hr : RX ks ks' C0) (hp : PinK ks ks') (hΓ : upK Γ os ks' = Γ') (E : Env F G H σ Γ Fs) (q : ∀ G' H' Fs', Env F G' H' σ Γ' Fs' → W (.ref C0) none σ H')
    (pl : plainE e = true := by rfl) (pls : es.all plainE = true := by rfl) (hd : (x == ("__debug__" : Str)) = false := by decide) : wE X (.Call (.Name x p) (e :: es) [] pos) σ H Q := by
  subst hΓ
  obtain ⟨f, fd, ps, h1, h2, h3, h4⟩ := h.at_ C
  refine ⟨_, pe_callS h1 (C.room.mono hk) (gl_of C hg) h2 h3 h4 (fun σ => passAt tk σ) pa_w hd (star_plain pl _ _) (back_plain pls), ?_⟩
  refine ha σ G H Fs E _ fun vs G1 H1 w1 r1 => ?_
  have E1 := E.grow w1
  refine ⟨_, _, _, _, E1.callee r1 nd, .inr ⟨ks', C0, hr, fun G2 H2 Fs2 E2 => ?_⟩⟩
  have E2' : Env ⟨F.K, offM H1 Fs (muO os), G1⟩ G2 H2 (vs.map some ++ []) (ks' ++ []) Fs2 := by rw [List.append_nil, List.append_nil]; exact E2
  obtain ⟨Fs3, E3⟩ := E1.back r1 nd muO_cov E2' hp.len hp.noA (by intro k hk; cases hk)
  rw [List.append_nil, List.append_nil] at E3
  exact q G2 H2 Fs3 E3
theorem ag_cons (C : Cok X M F N sc kk) {vs : List V} {B : Hp} (h : Γ[i]? = some k) (hp : k.pin = some v) (r : Ag F G B H Γ (muO (some i :: os)) vs ks os) : Ag F G B H Γ (muO (some i :: os)) (v :: vs) (k :: ks) (some i :: os) :=
  .mt (by simp [muO]) h hp r
/-- o.m(..), o a name's own thing -/
theorem me_meth {R : List Kd → List Kd → (V → Kd) → Prop} {RX : List Kd → List Kd → Addr → Prop} {k : Nat} {pl0 : Sem Bool} (C : Cok X M F N sc kk) (h : MeM M k Cc m R RX) (hk : k ≤ kk) (T : Cls M.K Cc) (hx : Sel N Γ x i (.res v r)) (hI : InsR v r Cc m) (hv : Vis sc x) (ha : MA X F Γ (muO (some i :: os)) (e :: es) ks os) (nd : OsNd (some i :: os)) (hr : R (.res v r :: ks) ks' o) (hp : PinK (.res v r :: ks) ks') (ho : ∀ v, (o v).noA = true) (hΓ : upK Γ (some i :: os) ks' = Γ')
    (hd : (x == ("__debug__" : Str)) = false) (hcd : (x == ("__classdict__" : Str)) = false)
    (ht : eval (.Call (.Attribute (.Name x px) m pa) (e :: es) [] pos) X.env = (do
      let ov ← eval (.Name x px) X.env
      standAt pa.atName
      let (f, first) ← holding [ov] (getMethod ov m pl0)
      callWith pos f first (backTo pos (starEach (e :: es) X.env)) (backToKw pos (keywordEach [] X.env))))
    (pl : plainE e = true := by rfl) (pls : es.all plainE = true := by rfl) : ME X F Γ (.Call (.Attribute (.Name x px) m pa) (e :: es) [] pos) o Γ' := fun σ G H Fs E Q q => by
  subst hΓ
  obtain ⟨f, fd, ps, h1, h2, h4⟩ := h.at_ C
  refine ⟨_, pe_meth (C := Cc) pe_w (by rw [C.hK]; exact T) h2 h1 (C.room.mono hk) h4 .nil passL pa_w (star_plain pl _ _) (back_plain pls) ht, ?_⟩
  obtain ⟨s1, s2⟩ := E.sl i _ hx.k
  refine w_name C hx hv s1 ?_ hd hcd
  obtain ⟨A, dx, fs, rfl, hA, hno⟩ := hI _ _ _ s2
  refine ⟨A, dx, fs, rfl, hA, hno, ?_⟩
  refine ha σ G H Fs E _ fun vs G1 H1 w1 r1 => ?_
  rw [List.append_nil]
  have E1 := E.grow w1
  have r2 := ag_cons C (v := .ref A) (k := .res (.ref A) r) hx.k rfl r1
  refine ⟨_, _, _, _, E1.callee r2 nd, .inl ⟨ks', o, hr, fun v G2 H2 Fs2 E2 => ?_⟩⟩
  obtain ⟨Fs3, E3⟩ := E1.back r2 nd muO_cov E2 hp.len hp.noA (by intro k hk; rw [List.mem_singleton] at hk; rw [hk]; exact ho v)
  exact q v G2 H2 Fs3 E3
/-! ### methods that only read -/
theorem ov_res (C : Cok X M F N sc kk) (h : Sel N Γ x i (.res v r)) (hi : Rd_ v r ro) (hv : Vis sc x) (hd : (x == ("__debug__" : Str)) = false) (hcd : (x == ("__classdict__" : Str)) = false) : OV X F Γ (.Name x px) ro := fun σ G H Fs E Q q => by
  obtain ⟨h1, h2⟩ := E.sl i _ h.k
  exact w_name C h hv h1 (q _ G H (.refl E.gh) (hi G H H _ h2 fun _ _ => rfl)) hd hcd
theorem ov_obj (C : Cok X M F N sc kk) (h : Sel N Γ x i (.arg (.obj ro))) (hv : Vis sc x) (hd : (x == ("__debug__" : Str)) = false) (hcd : (x == ("__classdict__" : Str)) = false) : OV X F Γ (.Name x px) ro := fun σ G H Fs E Q q => by
  obtain ⟨_, u, h1, h2⟩ := E.sl i _ h.k
  exact w_name C h hv h1 (q u G H (.refl E.gh) (ro.mono h2 (.refl _) E.bh)) hd hcd
theorem ov_v (h : VP X F Γ e v) (hk : ∀ p ∈ cs, Kn F Γ p.1 p.2) : OV X F Γ e (roH v cs) := fun σ G H Fs E Q q => h σ G H Fs E Q fun G1 H1 w1 => q v G1 H1 w1 ⟨rfl, fun p hp => hk p hp σ G1 H1 Fs (E.grow w1)⟩
theorem arl_cons {K : PySem.W.Frag} {vs : List V} {ars : List Ar} (h : ro.at_ G H v) (r : ArL K G H vs ars) : ArL K G H (v :: vs) (.obj ro :: ars) := .cons h r
theorem ep_meth {R : List Ar → PyData → Prop} {RX : List Ar → Addr → Prop} {k : Nat} {pl0 : Sem Bool} {ars : List Ar} (C : Cok X M F N sc kk) (h : MeA M k Cc m R RX) (hk : k ≤ kk) (T : Cls M.K Cc) (ho : OV X F Γ a ro) (hI : InsO ro Cc m) (ha : ArP X F Γ (e :: es) ars) (hr : R (.obj ro :: ars) d)
    (ht : eval (.Call (.Attribute a m pa) (e :: es) [] pos) X.env = (do
      let ov ← eval a X.env
      standAt pa.atName
      let (f, first) ← holding [ov] (getMethod ov m pl0)
      callWith pos f first (backTo pos (starEach (e :: es) X.env)) (backToKw pos (keywordEach [] X.env))))
    (pl : plainE e = true := by rfl) (pls : es.all plainE = true := by rfl) : EP X F Γ (.Call (.Attribute a m pa) (e :: es) [] pos) d := fun σ G H Fs E Q q => by
  obtain ⟨f, fd, ps, h1, h2, h4⟩ := h.at_ C
  refine ⟨_, pe_meth (C := Cc) pe_w (by rw [C.hK]; exact T) h2 h1 (C.room.mono hk) h4 .nil passL pa_w (star_plain pl _ _) (back_plain pls) ht, ?_⟩
  refine ho σ G H Fs E _ fun u G1 H1 w1 r1 => ?_
  obtain ⟨A, dx, fs, rfl, hA, hno⟩ := hI _ _ _ r1
  refine ⟨A, dx, fs, rfl, hA, hno, ?_⟩
  refine ha σ G1 H1 Fs (E.grow w1) _ fun vs G2 H2 w2 r2 => ?_
  rw [List.append_nil]
  exact ⟨G2, .obj ro :: ars, w2.s, .cons (ro.mono r1 w2.g w2.h) r2, .inl ⟨d, hr, fun v G3 H3 w3 r3 => q v G3 H3 ((w1.trans w2).trans w3) r3⟩⟩
theorem ep_meth0 {R : List Ar → PyData → Prop} {RX : List Ar → Addr → Prop} {k : Nat} {pl0 : Sem Bool} (C : Cok X M F N sc kk) (h : MeA M k Cc m R RX) (hk : k ≤ kk) (T : Cls M.K Cc) (ho : OV X F Γ a ro) (hI : InsO ro Cc m) (hr : R [.obj ro] d)
    (ht : eval (.Call (.Attribute a m pa) [] [] pos) X.env = (do
      let ov ← eval a X.env
      standAt pa.atName
      let (f, first) ← holding [ov] (getMethod ov m pl0)
      callWith pos f first (backTo pos (starEach [] X.env)) (backToKw pos (keywordEach [] X.env)))) : EP X F Γ (.Call (.Attribute a m pa) [] [] pos) d := fun σ G H Fs E Q q => by
  obtain ⟨f, fd, ps, h1, h2, h4⟩ := h.at_ C
  refine ⟨_, pe_meth0 (C := Cc) pe_w (by rw [C.hK]; exact T) h2 h1 (C.room.mono hk) h4 .nil passL ht, ?_⟩
  refine ho σ G H Fs E _ fun u G1 H1 w1 r1 => ?_
  obtain ⟨A, dx, fs, rfl, hA, hno⟩ := hI _ _ _ r1
  refine ⟨A, dx, fs, rfl, hA, hno, ?_⟩
  exact ⟨G1, [.obj ro], w1.s, .cons r1 .nil, .inl ⟨d, hr, fun v G3 H3 w3 r3 => q v G3 H3 (w1.trans w3) r3⟩⟩
/-! ### statements, tests -/
theorem me_ep (h : EP X F Γ e d) : ME X F Γ e (fun _ => .val d) Γ := fun σ G H Fs E Q q => h σ G H Fs E Q fun v G1 H1 w1 r1 =>
  q v G1 H1 _ ((E.grow w1).more (P := fun _ => False) (kat_val r1) fun _ z => z.elim)
theorem me_np (h : NP X F Γ e ds) : ME X F Γ e (fun v => .own v ds) Γ := fun σ G H Fs E Q q => h σ G H Fs E Q fun a vs G1 H1 w1 hn hg h1 hc r1 =>
  q _ G1 H1 _ ((E.grow w1).more (P := fun b => b = a) ⟨rfl, a, vs, rfl, fun _ => .rfl, h1, hc, r1⟩ fun b hb => by
    subst hb
    exact ⟨E.bh.none hn, hg, (by rw [h1]; exact fun z => nomatch z), fun j z => (E.fp j _ z).2.2.1 hn⟩)
theorem ws_setM (C : Cok X M F N sc kk) (B : Bok X) (E : Env F G H σ Γ Fs) (hx : Sel N Γ1 x i k) (hl : Loc sc x) (h : ME X F Γ e o Γ1) {Γ' : V → List Kd} (hΓ : ∀ v, Γ1.set i (o v) = Γ' v) (q : ∀ v σ' G' H' Fs', Env F G' H' σ' (Γ' v) Fs' → wSs X rest D σ' H') (hc : noComp e = true := by rfl) :
    wSs X (.Assign [.Name x px] e pos :: rest) D σ H := by
  refine ws_cons ⟨_, ps_set (by rw [C.hN]; exact C.nd) (by rw [C.hN]; exact hx.n) (C.loc hl) pe_w (sw_no hc _ _ _) (.inl (B.fn x)), ?_⟩
  refine h σ G H Fs E _ fun v G1 H1 Fs1 E1 => ?_
  obtain ⟨Fs2, E2⟩ := E1.move (List.getElem?_eq_some_iff.mp hx.k).1
  rw [hΓ v] at E2
  exact q v _ G1 H1 Fs2 E2
theorem ws_exprM (E : Env F G H σ Γ Fs) (h : ME X F Γ e o Γ1) (q : ∀ G' H' Fs', Env F G' H' σ Γ1 Fs' → wSs X rest D σ H') (hc : noComp e = true := by rfl) : wSs X (.Expr e pos :: rest) D σ H := by
  refine ws_cons ⟨_, ps_expr pe_w (sw_no hc _ _ _), ?_⟩
  refine h σ G H Fs E _ fun v G1 H1 Fs1 E1 => ?_
  obtain ⟨Fs2, E2⟩ := E1.drop
  exact q G1 H1 Fs2 E2
theorem ws_exprP (E : Env F G H σ Γ Fs) (h : EP X F Γ e d) (q : ∀ G' H', Env F G' H' σ Γ Fs → wSs X rest D σ H') (hc : noComp e = true := by rfl) : wSs X (.Expr e pos :: rest) D σ H :=
  ws_cons ⟨_, ps_expr pe_w (sw_no hc _ _ _), h σ G H Fs E _ fun v G1 H1 w1 r1 => q G1 H1 (E.grow w1)⟩
theorem ws_retM {Γa : List Kd} (E : Env F G H σ Γ Fs) (h : ME X F Γ e o Γ1) (hf : FinK Γ1 Γa) (hD : D.rt = mRt Γa o F := by rfl) : wSs X (.Return (some e) pos :: rest) D σ H := by
  refine ws_cons ⟨_, ps_ret pe_w, h σ G H Fs E _ fun v G1 H1 Fs1 E1 => ?_⟩
  show D.rt v H1
  rw [hD]
  exact ⟨G1, σ, Γ1, Fs1, E1, hf⟩
theorem ws_endM {Γa : List Kd} (E : Env F G H σ Γ Fs) (hf : FinK Γ Γa) (hD : D.nx = (mEnds F Γa fun _ => .val .none).nx := by rfl) : wSs X [] D σ H := by
  refine ws_nil ?_
  rw [hD]
  exact ⟨G, Γ, Fs, E, hf, rfl⟩
theorem mt_tp {t : Bool} (h : TP_ X F Γ c t) : MT X F Γ c t Γ := fun σ G H Fs E Q q => h σ G H Fs E Q fun G1 H1 w1 => q G1 H1 Fs (E.grow w1)
theorem mt_me {t : Bool} (h : ME X F Γ e (fun _ => .val (.bool t)) Γ1) (he : ∀ whole, isTrue e X.env whole = (do let v ← whole; standAt e.pos; holding [v] (truthy v)) := by intro _; rfl) : MT X F Γ e t Γ1 := fun σ G H Fs E Q q => by
  refine ⟨_, pt_val pe_w he, ?_⟩
  refine h σ G H Fs E _ fun v G1 H1 Fs1 E1 => ?_
  have s := E1.sl σ.length (.val (.bool t)) (by
    have := E1.len
    rw [List.length_append, List.length_append] at this
    rw [List.getElem?_append_right (by simp at this; omega)]
    have e : σ.length - Γ1.length = 0 := by simp at this; omega
    rw [e]; rfl)
  rw [List.getElem?_append_right (Nat.le_refl _), Nat.sub_self] at s
  obtain ⟨_, u, h1, h2⟩ := s
  obtain rfl : v = u := by simpa using h1
  obtain rfl := h2.bl_inv
  obtain ⟨Fs2, E2⟩ := E1.drop
  exact ⟨t, rfl, q G1 H1 Fs2 E2⟩
theorem mt_not {t : Bool} (h : MT X F Γ a t Γ1) : MT X F Γ (.UnaryOp .Not a pos) (!t) Γ1 := fun σ G H Fs E Q q =>
  ⟨_, pt_not pt_w, h σ G H Fs E _ fun G1 H1 Fs1 E1 => q _ _ _ E1⟩
theorem MW.mt {t : Bool} (h : MW X F Γ e t Γ1) : MT X F Γ e t Γ1 := fun σ G H Fs E Q q => ⟨_, pw_w.pt, h σ G H Fs E Q q⟩
theorem mw_or1 {t : Bool} (h : MT X F Γ a t Γ1) : MW X F Γ (.BoolOp .Or [a] pos) t Γ1 := fun σ G H Fs E Q q => ⟨_, pw_or1 pt_w, h σ G H Fs E Q q⟩
theorem mw_and1 {t : Bool} (h : MT X F Γ a t Γ1) : MW X F Γ (.BoolOp .And [a] pos) t Γ1 := fun σ G H Fs E Q q => ⟨_, pw_and1 pt_w, h σ G H Fs E Q q⟩
theorem mw_orF {u : Bool} {Γ2 : List Kd} (h : MT X F Γ a false Γ1) (h2 : MW X F Γ1 (.BoolOp .Or (b :: es) pos) u Γ2) : MW X F Γ (.BoolOp .Or (a :: b :: es) pos) u Γ2 := fun σ G H Fs E Q q => by
  refine ⟨_, pw_or pt_w pw_w, h σ G H Fs E _ fun G1 H1 Fs1 E1 => ?_⟩
  exact iteF (h2 σ G1 H1 Fs1 E1 Q q)
theorem mw_orT (h : MT X F Γ a true Γ1) : MW X F Γ (.BoolOp .Or (a :: b :: es) pos) true Γ1 := fun σ G H Fs E Q q => by
  refine ⟨_, pw_or pt_w pw_w, h σ G H Fs E _ fun G1 H1 Fs1 E1 => ?_⟩
  exact iteT (q _ _ _ E1)
theorem mw_andT {u : Bool} {Γ2 : List Kd} (h : MT X F Γ a true Γ1) (h2 : MW X F Γ1 (.BoolOp .And (b :: es) pos) u Γ2) : MW X F Γ (.BoolOp .And (a :: b :: es) pos) u Γ2 := fun σ G H Fs E Q q => by
  refine ⟨_, pw_and pt_w pw_w, h σ G H Fs E _ fun G1 H1 Fs1 E1 => ?_⟩
  exact iteT (h2 σ G1 H1 Fs1 E1 Q q)
theorem mw_andF (h : MT X F Γ a false Γ1) : MW X F Γ (.BoolOp .And (a :: b :: es) pos) false Γ1 := fun σ G H Fs E Q q => by
  refine ⟨_, pw_and pt_w pw_w, h σ G H Fs E _ fun G1 H1 Fs1 E1 => ?_⟩
  exact iteF (q _ _ _ E1)
theorem ws_ifM {t : Bool} {A B : List Stmt} (E : Env F G H σ Γ Fs) (h : MT X F Γ c t Γ1) (h1 : t = true → ∀ G' H' Fs', Env F G' H' σ Γ1 Fs' → wSs X A { D with nx := fun σ H => wSs X rest D σ H } σ H') (h2 : t = false → ∀ G' H' Fs', Env F G' H' σ Γ1 Fs' → wSs X B { D with nx := fun σ H => wSs X rest D σ H } σ H') :
    wSs X (.If c A B pos :: rest) D σ H := by
  refine ws_cons ⟨_, ps_if pt_w pss_w pss_w, h σ G H Fs E _ fun G1 H1 Fs1 E1 => ?_⟩
  cases t with
  | true => exact iteT (h1 rfl G1 H1 Fs1 E1)
  | false => exact iteF (h2 rfl G1 H1 Fs1 E1)
/-! ### a new instance -/
theorem upK_app : ∀ {os : List (Option Nat)} {ks : List Kd} {Γ : List Kd} {k : Kd}, (∀ i, some i ∈ os → i < Γ.length) → upK (Γ ++ [k]) os ks = upK Γ os ks ++ [k]
  | [], ks, Γ, k, h => by unfold upK; rfl
  | _ :: _, [], Γ, k, h => by unfold upK; rfl
  | some i :: os, k' :: ks, Γ, k, h => by
    rw [upK, upK, List.set_append_left _ _ (h i List.mem_cons_self)]
    exact upK_app fun i' hi => by rw [List.length_set]; exact h i' (List.mem_cons_of_mem _ hi)
  | none :: os, k' :: ks, Γ, k, h => by
    rw [upK, upK]
    exact upK_app fun i' hi => h i' (List.mem_cons_of_mem _ hi)
theorem Env.newI (E : Env F G H σ Γ Fs) {I dx Cc : Addr} (h1 : H I = none) (h2 : H dx = none) (hne : dx ≠ I) : ∃ Fs', Env F G (upd (upd H dx (.own I)) I (.ins Cc dx [])) (σ ++ [some (.ref I)]) (Γ ++ [.res (.ref I) (rsH [(I, .ins Cc dx [])])]) Fs' ∧ ∀ i a, i < Γ.length → (Fs' i a ↔ Fs i a) := by
  have g1 := Grow.raw (G := G) (o := HO.own I) E.gh h2
  have h1' : upd H dx (HO.own I) I = none := by rw [upd_ne hne.symm]; exact h1
  have E1 := E.grow (g1.trans (.raw g1.s (o := HO.ins Cc dx []) h1'))
  refine ⟨_, E1.more (k := .res (.ref I) (rsH [(I, .ins Cc dx [])])) (x := some (.ref I)) (P := fun a => a = I) ⟨rfl, ?_, ?_, ?_⟩ (fun a ha => ?_), fun i a hi => ?_⟩
  · intro a; show a = I ↔ a ∈ [I]; rw [List.mem_singleton]
  · show [I].Nodup; exact List.nodup_cons.mpr ⟨by simp, List.nodup_nil⟩
  · intro p hp
    rw [List.mem_singleton] at hp
    subst hp
    exact upd_same
  · subst ha
    exact ⟨E.bh.none h1, E.gh.none h1, (by rw [upd_same]; exact fun z => nomatch z), fun j z => (E.fp j _ z).2.2.1 h1⟩
  · show (if i = Γ.length then a = I else Fs i a) ↔ _
    rw [if_neg (by omega)]
theorem off_newI (E : Env F G H σ Γ Fs) {I dx Cc : Addr} {Fs' : Nat → Addr → Prop} {mu mu' : Nat → Bool} (h1 : H I = none) (h2 : H dx = none) (hne : dx ≠ I) (hF : ∀ i a, i < Γ.length → (Fs' i a ↔ Fs i a)) (hI : ∀ a, Fs' Γ.length a → a = I) (hm : ∀ i, i < Γ.length → mu' i = mu i) (hmm : ∀ i, Γ.length < i → ∀ a, ¬ Fs' i a) : Ex (offM H Fs mu) (offM (upd (upd H dx (.own I)) I (.ins Cc dx [])) Fs' mu') := fun a o h => by
  have hn : ¬ ∃ i, mu i = true ∧ Fs i a := fun ⟨i, z1, z2⟩ => by rw [off_none z1 z2] at h; cases h
  rw [off_of fun i h1 h2 => hn ⟨i, h1, h2⟩] at h
  have hne1 : a ≠ I := fun z => by rw [z, h1] at h; cases h
  have hne2 : a ≠ dx := fun z => by rw [z, h2] at h; cases h
  rw [off_of fun i z1 z2 => ?_, upd_ne hne1, upd_ne hne2]
  · exact h
  · rcases Nat.lt_trichotomy i Γ.length with w | w | w
    · rw [hm i w] at z1; exact hn ⟨i, z1, (hF i a w).mp z2⟩
    · subst w; exact hne1 (hI a z2)
    · exact hmm i w a z2
theorem ag_newI {B B' H' : Hp} {vs : List V} {kn : Kd} (hl : ∀ i, some i ∈ os → i < Γ.length) (b : Ex B B') (r : Ag F G B H Γ (muO os) vs ks os) : Ag F G B' H' (Γ ++ [kn]) (muO (some Γ.length :: os)) vs ks os :=
  r.mono (.refl G) b (fun i hi => by simp only [muO] at hi ⊢; simp only [List.contains_cons, Bool.or_eq_true]; exact .inr hi) (fun i k _ hk => by
    have hi := (List.getElem?_eq_some_iff.mp hk).1
    rw [get_app hi]; exact hk)
/-- C(..) -/
theorem me_make {R : List Kd → List Kd → (V → Kd) → Prop} {RX : List Kd → List Kd → Addr → Prop} {k : Nat} {o : V → Kd} (C : Cok X M F N sc kk) (h : MkM M k x Cc R RX) (hk : k + 1 ≤ kk) (hg : sc.names.lookup x = some .globalImplicit) (ha : MA X F Γ (muO os) (e :: es) ks os) (nd : OsNd os) (hol : ∀ i, some i ∈ os → i < Γ.length) (hno : ∀ v, (o v).noA = true)
    (hr : ∀ I dx, ∃ ks', R (.res (.ref I) (rsH [(I, .ins Cc dx [])]) :: ks) (o (.ref I) :: ks') (fun _ => .val .none) ∧ PinK (.res (.ref I) (rsH [(I, .ins Cc dx [])]) :: ks) (o (.ref I) :: ks') ∧ upK Γ os ks' = Γ')
    (pl : plainE e = true := by rfl) (pls : es.all plainE = true := by rfl) (hd : (x == ("__debug__" : Str)) = false := by decide) : ME X F Γ (.Call (.Name x p) (e :: es) [] pos) o Γ' := fun σ G H Fs E Q q => by
  obtain ⟨f, fd, ps, h1, h2, h3, h4⟩ := h.at_ C
  refine ⟨_, pe_make h2 h1 (C.room.mono hk) (gl_of C hg) h3 h4 .nil passL pa_w hd (star_plain pl _ _) (back_plain pls), ?_⟩
  refine ha σ G H Fs E _ fun vs G1 H1 w1 r1 => ?_
  intro I dx nI ndx hne
  rw [List.append_nil]
  have E1 := E.grow w1
  obtain ⟨Fs1, E2, hF⟩ := E1.newI (Cc := Cc) nI ndx hne
  obtain ⟨ks', hr, hp, hΓ⟩ := hr I dx
  have hin : (Γ ++ [Kd.res (.ref I) (rsH [(I, .ins Cc dx [])])])[Γ.length]? = some (.res (.ref I) (rsH [(I, .ins Cc dx [])])) := by simp
  have hI : ∀ a, Fs1 Γ.length a → a = I := fun a z => by
    have s := (E2.sl Γ.length _ hin).2.1
    have := (s a).mp z
    rw [show keysC [(I, Cl.ins Cc dx [])] = [I] from rfl, List.mem_singleton] at this; exact this
  have hmm : ∀ i, Γ.length < i → ∀ a, ¬ Fs1 i a := fun i hi a z => by
    have := (E2.fp i a z).2.2.2
    rw [List.length_append, List.length_singleton] at this; omega
  have hm : ∀ i, i < Γ.length → muO (some Γ.length :: os) i = muO os i := fun i hi => by
    have : (some i == some Γ.length) = false := by simp; omega
    simp [muO, List.contains_cons, this]
    omega
  have r2 := ag_newI (kn := .res (.ref I) (rsH [(I, .ins Cc dx [])])) (H' := upd (upd H1 dx (.own I)) I (.ins Cc dx [])) hol (off_newI (mu := muO os) (mu' := muO (some Γ.length :: os)) (Cc := Cc) E1 nI ndx hne hF hI hm hmm) r1
  have nd2 : OsNd (some Γ.length :: os) := fun j j' i z1 z2 => by
    cases j with
    | zero =>
      cases j' with
      | zero => rfl
      | succ j' =>
        obtain rfl : Γ.length = i := by simpa using z1
        have := hol _ (List.mem_of_getElem? (by simpa using z2)); omega
    | succ j =>
      cases j' with
      | zero =>
        obtain rfl : Γ.length = i := by simpa using z2
        have := hol _ (List.mem_of_getElem? (by simpa using z1)); omega
      | succ j' => rw [nd j j' i (by simpa using z1) (by simpa using z2)]
  have r3 := ag_cons C (v := .ref I) (k := .res (.ref I) (rsH [(I, .ins Cc dx [])])) hin rfl r2
  refine ⟨_, _, _, _, E2.callee r3 nd2, .inl ⟨_, _, hr, fun v G2 H2 Fs2 E3 => ?_⟩⟩
  obtain ⟨Fs3, E4⟩ := E2.back r3 nd2 muO_cov E3 hp.len hp.noA (by intro k hk; rw [List.mem_singleton] at hk; rw [hk]; rfl)
  obtain ⟨Fs4, E5⟩ := E4.drop
  have ev : v = .non := by
    have s := E4.sl (σ ++ [some (V.ref I)]).length (.val .none) (by
      rw [List.getElem?_append_right (by rw [upK_len, List.length_append, List.length_append, E1.len]; exact Nat.le_refl _), upK_len, List.length_append, List.length_append, E1.len]
      simp)
    rw [List.getElem?_append_right (Nat.le_refl _), Nat.sub_self] at s
    obtain ⟨_, u, z1, z2⟩ := s
    obtain rfl : v = u := by simpa using z1
    exact z2.non_inv
  refine ⟨ev, ?_⟩
  have eΓ : upK (Γ ++ [Kd.res (.ref I) (rsH [(I, .ins Cc dx [])])]) (some Γ.length :: os) (o (.ref I) :: ks') = Γ' ++ [o (.ref I)] := by
    rw [upK, ← hΓ]
    have e0 : (Γ ++ [Kd.res (.ref I) (rsH [(I, .ins Cc dx [])])]).set Γ.length (o (.ref I)) = Γ ++ [o (.ref I)] := by
      rw [List.set_append_right _ _ (Nat.le_refl _), Nat.sub_self]; rfl
    rw [e0]
    exact upK_app hol
  rw [eΓ] at E5
  exact q _ G2 H2 Fs4 E5
end
end Rn

namespace Rn
open PySem PySem.Spec PyProof.Rows L2

/-! ## a dict of an object that is read, locked while it is walked -/
def lessG (G : Hp) (A : Addr) : Hp := fun a => if a = A then none else G a
def addG (G2 G : Hp) (A : Addr) : Hp := fun a => if a = A then G a else G2 a
theorem less_ne {G : Hp} {A a : Addr} (h : a ≠ A) : lessG G A a = G a := by unfold lessG; rw [if_neg h]
theorem less_eq {G : Hp} {A : Addr} : lessG G A A = none := by unfold lessG; rw [if_pos rfl]
theorem add_ne {G2 G : Hp} {A a : Addr} (h : a ≠ A) : addG G2 G A a = G2 a := by unfold addG; rw [if_neg h]
theorem add_eq {G2 G : Hp} {A : Addr} : addG G2 G A A = G A := by unfold addG; rw [if_pos rfl]
mutual
theorem Rp.less {G : Hp} {A : Addr} (h : (∀ vs, G A ≠ some (.lst vs)) ∧ ∀ vs, G A ≠ some (.tup vs)) : ∀ {v : V} {d : PyData}, Rp G v d → Rp (lessG G A) v d
  | _, _, .non => .non
  | _, _, .bl => .bl
  | _, _, .int => .int
  | _, _, .str => .str
  | _, _, .lst (a := a) h1 l r => .lst (by rw [less_ne]; exact h1; intro z; exact h.1 _ (z ▸ h1)) l (RpL.less h r)
  | _, _, .tup (a := a) h1 l r => .tup (by rw [less_ne]; exact h1; intro z; exact h.2 _ (z ▸ h1)) l (RpL.less h r)
theorem RpL.less {G : Hp} {A : Addr} (h : (∀ vs, G A ≠ some (.lst vs)) ∧ ∀ vs, G A ≠ some (.tup vs)) : ∀ {vs : List V} {ds : List PyData}, RpL G vs ds → RpL (lessG G A) vs ds
  | _, _, .nil => .nil
  | _, _, .cons a r => .cons (Rp.less h a) (RpL.less h r)
end
theorem RpD.less {G : Hp} {A : Addr} (h : (∀ vs, G A ≠ some (.lst vs)) ∧ ∀ vs, G A ≠ some (.tup vs)) : ∀ {es : List (Key × V)} {kvs : List (Int × PyData)}, RpD G es kvs → RpD (lessG G A) es kvs
  | _, _, .nil => .nil
  | _, _, .cons a r => .cons (Rp.less h a) (r.less h)
/-- the locked state's frame -/
def lkF (F : Fr) (G : Hp) (A : Addr) (u : HO) : Fr := ⟨F.K, upd F.B A u, lessG G A⟩
def allNoA (Γ : List Kd) : Prop := ∀ k ∈ Γ, k.noA = true
theorem kat_less {F F' : Fr} {G H H' : Hp} {A : Addr} {k : Kd} {x : Option V} {P : Addr → Prop} (hk : k.noA = true) (h : KAt F G H k x P) (hG : (∀ vs, G A ≠ some (.lst vs)) ∧ ∀ vs, G A ≠ some (.tup vs)) (hr : ∀ v r, k ≠ .res v r) (e : ∀ a, P a → H' a = H a) : KAt F' (lessG G A) H' k x P := by
  cases k with
  | un => exact h
  | val d => obtain ⟨h1, v, h2, h3⟩ := h; exact ⟨h1, v, h2, h3.less hG⟩
  | own v ds => obtain ⟨h1, a, vs, h2, h3, h4, h5, h6⟩ := h; exact ⟨h1, a, vs, h2, h3, (e a ((h3 a).mpr rfl)).trans h4, h5, h6.less hG⟩
  | arg r => cases hk
  | raw v => exact h
  | res v r => exact absurd rfl (hr v r)
def noRes : Kd → Bool
  | .res _ _ => false
  | _ => true
section
variable {F : Fr} {G H : Hp} {σ : L2.St} {Γt Γ2 : List Kd} {Fs : Nat → Addr → Prop} {s A dx Cc : Addr} {fs : List (Str × V)} {kvs : List (Int × PyData)} {v : V}
abbrev roDict (v : V) (s : Addr) (Cc dx : Addr) (fs : List (Str × V)) (A : Addr) (kvs : List (Int × PyData)) : Ro := roH v [(s, .ins Cc dx fs), (A, .dic kvs)]
abbrev roLock (v : V) (s : Addr) (Cc dx : Addr) (fs : List (Str × V)) (A : Addr) (od : Obj) (kvs : List (Int × PyData)) : Ro := roH v [(s, .ins Cc dx fs), (A, .lck od kvs)]
theorem Env.lockO {Γ : List Kd} {s0 : Nat} (E : Env F G H σ Γ Fs) (h0 : Γ[s0]? = some (.arg (.obj (roDict v s Cc dx fs A kvs)))) (hn : ∀ j k, j ≠ s0 → Γ[j]? = some k → k.noA = true ∧ noRes k = true) : ∃ es, F.B A = some (.dK es) ∧ H A = some (.dK es) ∧ RpD G es kvs ∧ kvs.length ≤ cap ∧ ∀ od,
    Env (lkF F G A (.frz od (.dK es))) (lessG G A) (upd H A (.frz od (.dK es))) σ (Γ.set s0 (.arg (.obj (roLock v s Cc dx fs A od kvs)))) Fs := by
  obtain ⟨hf, u, hu, e, hc⟩ := E.sl s0 _ h0
  have c1 := hc (s, .ins Cc dx fs) (by simp)
  obtain ⟨es, c2, c3, c4⟩ := hc (A, .dic kvs) (by simp)
  have hH := E.bh _ _ c2
  have hlt : s0 < Γ.length := (List.getElem?_eq_some_iff.mp h0).1
  have hG : (∀ vs, G A ≠ some (.lst vs)) ∧ ∀ vs, G A ≠ some (.tup vs) := ⟨(fun vs z => by have := E.gh _ _ z; rw [hH] at this; cases this), (fun vs z => by have := E.gh _ _ z; rw [hH] at this; cases this)⟩
  have hsA : s ≠ A := fun z => by have c1' : F.B s = _ := c1; rw [z, c2] at c1'; cases c1'
  have nA : ∀ i a, Fs i a → a ≠ A := fun i a ha z => by have := (E.fp i a ha).1; rw [z, c2] at this; cases this
  refine ⟨es, c2, hH, c4, c3, fun od => ⟨fun a o h => ?_, fun a o h => ?_, .refl _, fun _ _ => rfl, by rw [List.length_set]; exact E.len, fun i k hk => ?_, E.dis, fun i a ha => ?_⟩⟩
  · by_cases z : a = A
    · rw [z, less_eq] at h; cases h
    · rw [less_ne z] at h; rw [upd_ne z]; exact E.gh a o h
  · by_cases z : a = A
    · have h' : upd F.B A (.frz od (.dK es)) a = some o := h
      rw [z, upd_same] at h'; rw [z, upd_same]; exact h'
    · have h' : upd F.B A (.frz od (.dK es)) a = some o := h
      rw [upd_ne z] at h'; rw [upd_ne z]; exact E.bh a o h'
  · by_cases z : s0 = i
    · subst z
      rw [List.getElem?_set_self hlt] at hk
      obtain rfl := Option.some.inj hk
      refine ⟨hf, u, hu, e, fun p hp => ?_⟩
      rcases List.mem_cons.mp hp with z | z
      · subst z
        show upd F.B A (.frz od (.dK es)) s = _
        rw [upd_ne hsA]; exact c1
      · rw [List.mem_singleton] at z; subst z
        exact ⟨es, upd_same, c3, c4.less hG⟩
    · rw [List.getElem?_set_ne z] at hk
      have hm := hn i k (Ne.symm z) hk
      exact kat_less hm.1 (E.sl i k hk) hG (fun v r z => by rw [z] at hm; cases hm.2) fun a ha => upd_ne (nA _ a ha)
  · have f := E.fp i a ha
    refine ⟨?_, ?_, ?_, by rw [List.length_set]; exact f.2.2.2⟩
    · show upd F.B A (.frz od (.dK es)) a = none
      rw [upd_ne (nA i a ha)]; exact f.1
    · rw [less_ne (nA i a ha)]; exact f.2.1
    · rw [upd_ne (nA i a ha)]; exact f.2.2.1
theorem Env.unlockO {Γ : List Kd} {s0 : Nat} {G2 H2 : Hp} {σ2 : L2.St} {Fs2 : Nat → Addr → Prop} {od : Obj} {es : List (Key × V)} (E : Env F G H σ Γ Fs) (h0 : Γ[s0]? = some (.arg (.obj (roDict v s Cc dx fs A kvs)))) (hB : F.B A = some (.dK es))
    (E2 : Env (lkF F G A (.frz od (.dK es))) G2 H2 σ2 Γ2 Fs2) (h02 : Γ2[s0]? = some (.arg (.obj (roLock v s Cc dx fs A od kvs)))) (hn : ∀ j k, j ≠ s0 → Γ2[j]? = some k → k.noA = true) : H2 A = some (.frz od (.dK es)) ∧ Env F (addG G2 G A) (upd H2 A (.dK es)) σ2 (Γ2.set s0 (.arg (.obj (roDict v s Cc dx fs A kvs)))) Fs2 ∧ Ex G (addG G2 G A) := by
  obtain ⟨hf, u, hu, e, hc⟩ := E.sl s0 _ h0
  have hlt : s0 < Γ2.length := (List.getElem?_eq_some_iff.mp h02).1
  have hA : H2 A = some (.frz od (.dK es)) := E2.bh A _ upd_same
  have hHA : H A = some (.dK es) := E.bh _ _ hB
  have g2A : G2 A = none := by
    have := E2.go A (by show upd F.B A (.frz od (.dK es)) A ≠ none; rw [upd_same]; exact fun z => nomatch z)
    rw [this]; exact less_eq
  have gex : Ex G2 (addG G2 G A) := fun a o h => by
    rw [add_ne (fun z => by rw [z, g2A] at h; cases h)]; exact h
  have nA : ∀ i a, Fs2 i a → a ≠ A := fun i a ha z => by have := (E2.fp i a ha).2.2.1; have h1 := (E2.fp i a ha).1; rw [z] at h1; rw [show (lkF F G A (.frz od (.dK es))).B A = _ from upd_same] at h1; cases h1
  have g01 : Ex G (addG G2 G A) := fun a o h => by
    by_cases z : a = A
    · rw [z, add_eq]; rw [← z]; exact h
    · rw [add_ne z]; exact E2.g0 a o (by show lessG G A a = _; rw [less_ne z]; exact h)
  refine ⟨hA, ⟨fun a o h => ?_, fun a o h => ?_, E.g0.trans g01, fun a h => ?_, by rw [List.length_set]; exact E2.len, fun i k hk => ?_, E2.dis, fun i a ha => ?_⟩, g01⟩
  · by_cases z : a = A
    · rw [z, add_eq] at h; rw [z, upd_same]; have := E.gh _ _ h; rw [hHA] at this; exact this
    · rw [add_ne z] at h; rw [upd_ne z]; exact E2.gh a o h
  · by_cases z : a = A
    · rw [z, hB] at h; rw [z, upd_same]; exact h
    · rw [upd_ne z]; exact E2.bh a o (by show upd F.B A _ a = _; rw [upd_ne z]; exact h)
  · by_cases z : a = A
    · rw [z, add_eq]; rw [z] at h; exact E.go A h
    · rw [add_ne z]
      have := E2.go a (by show upd F.B A _ a ≠ none; rw [upd_ne z]; exact h)
      rw [this]
      show lessG G A a = _
      rw [less_ne z]; exact E.go a h
  · by_cases z : s0 = i
    · subst z
      rw [List.getElem?_set_self hlt] at hk
      obtain rfl := Option.some.inj hk
      obtain ⟨h0', u', hu', e', _⟩ := E2.sl s0 _ h02
      exact ⟨h0', u', hu', e', fun p hp => (hc p hp).mono g01 (.refl _)⟩
    · rw [List.getElem?_set_ne z] at hk
      have hm := hn i k (Ne.symm z) hk
      exact (((E2.sl i k hk).re hm).mono gex fun a ha => upd_ne (nA _ a ha))
  · have f := E2.fp i a ha
    have hz := nA i a ha
    have f1 : upd F.B A (.frz od (.dK es)) a = none := f.1
    refine ⟨by rw [upd_ne hz] at f1; exact f1, by rw [add_ne hz]; exact f.2.1, by rw [upd_ne hz]; exact f.2.2.1, by rw [List.length_set]; exact f.2.2.2⟩
end
section
variable {X : Cx} {M : Md} {F : Fr} {N : List Str} {sc scope : Scope} {kk : Nat} {Γ Γt Γ1 Γ' : List Kd} {e a b c elt src : Expr} {es ifs : List Expr} {rest body : List Stmt} {st : Stmt} {D : Ends} {σ : L2.St} {G H : Hp} {Fs : Nat → Addr → Prop} {d da db d1 d2 : PyData} {ds : List PyData} {p pos px py pa pc pt : Pos} {x y f m : Str} {i j n : Nat} {k k2 : Kd} {v : V} {s q A B0 dx Cc : Addr} {fs fs' : List (Str × V)} {cs : List (Addr × Cl)} {cl : Cl} {kvs : List (Int × PyData)}
theorem cok_lk {u : HO} (C : Cok X M F N sc kk) : Cok X M (lkF F G A u) N sc kk := ⟨C.hP, C.hw, C.hK, C.hF, C.hM, C.hb, C.hN, C.hs, C.nd, C.calm, C.room⟩
/-- for x, y in (an own dict that is read).items() -/
theorem ws_forItemsO {u s0 : Nat} (J : Obj → Nat → List Kd → Prop) (C : Cok X M F N sc kk) (B : Bok X) (E : Env F G H σ Γ Fs) (h0s : Γ[s0]? = some (.arg (.obj (roDict v s Cc dx fs A kvs)))) (hi : N[i]? = some x) (hj : N[j]? = some y) (hij : i ≠ j) (hl : Loc sc x) (hl2 : Loc sc y)
    (he : ∀ F' od, Cok X M F' N sc kk → VP X F' (Γ.set s0 (.arg (.obj (roLock v s Cc dx fs A od kvs)))) e (.ref A)) (hn : ∀ j k, j ≠ s0 → Γ[j]? = some k → k.noA = true ∧ noRes k = true)
    (hJ : ∀ od n Γ, J od n Γ → Γ[s0]? = some (.arg (.obj (roLock v s Cc dx fs A od kvs))) ∧ (∀ j k, j ≠ s0 → Γ[j]? = some k → k.noA = true) ∧ ∃ k k2, Γ[i]? = some k ∧ Γ[j]? = some k2 ∧ k.dry = true ∧ k2.dry = true) (h0 : ∀ od, J od 0 (Γ.set s0 (.arg (.obj (roLock v s Cc dx fs A od kvs)))))
    (hb : ∀ F' od n k d Γ', Cok X M F' N sc kk → kvs[n]? = some (k, d) → J od n Γ' → ∀ σ G H Fs, Env F' G H σ ((Γ'.set i (.val (.int k))).set j (.val d)) Fs → wSs X body { nx := Nx F' fun Γ => J od (n + 1) Γ, rt := fun _ _ => False } σ H)
    (hd : ∀ od Γ', J od kvs.length Γ' → ∀ σ G H Fs, Env F G H σ (Γ'.set s0 (.arg (.obj (roDict v s Cc dx fs A kvs)))) Fs → wSs X rest D σ H)
    (hbase : attributeBase e "items" X.env (eval e X.env) = eval e X.env) (hline : (pa.endLine == pc.line) = true) : wSs X (.For (.Tuple [.Name x px, .Name y py] u pt) (.Call (.Attribute e "items" pa) [] [] pc) body [] pos :: rest) D σ H := by
  obtain ⟨es, hB, hH, hR, hcap, hE⟩ := E.lockO h0s hn
  refine ws_cons ⟨_, ps_lock (ps_for (passB B) C.calm (pi_items pe_w hbase hline) (pg_tup C.calm (pgs_cons (pg_nm C B hi hl) (pgs_cons (pg_nm C B hj hl2) pgs_nil))) pss_w (fold_no rfl X.env)), ?_⟩
  refine ⟨A, .dK es, hH, trivial, fun od => ?_⟩
  have E1 := hE od
  have C1 : Cok X M (lkF F G A (.frz od (.dK es))) N sc kk := cok_lk C
  refine he _ od C1 σ _ _ Fs E1 _ fun G2 H2 w2 => ?_
  have E2 := E1.grow w2
  have hl2 : H2 A = some (.frz od (.dK es)) := E2.bh _ _ upd_same
  refine ⟨A, od, es, rfl, hl2, ?_⟩
  have elen := hR.len
  refine for_it walk_items (fun n σ' H' => ∃ G' Γ' Fs', Env (lkF F G A (.frz od (.dK es))) G' H' σ' Γ' Fs' ∧ J od n Γ') ⟨G2, _, Fs, E2, h0 od⟩ (fun n σ' H' _ ⟨G', Γ', Fs', E', _⟩ => E'.bh _ _ upd_same) (fun n z σ' H' H'' hlt ⟨G', Γ', Fs', E', hj'⟩ hy => ?_) fun σ' H' ⟨G', Γ', Fs', E', hj'⟩ => ?_
  · obtain ⟨T, x', y', rfl, hT, rfl, hx', hy'⟩ := hy
    have hg : ∃ kv, es[n]? = some kv := ⟨es[n], List.getElem?_eq_getElem hlt⟩
    obtain ⟨kv, hkv⟩ := hg
    have hx2 : Option.map (fun kv => kV kv.1) es[n]? = some x' := hx'
    have hy2 : Option.map Prod.snd es[n]? = some y' := hy'
    rw [hkv] at hx2 hy2
    obtain rfl : kV kv.1 = x' := by simpa using hx2
    obtain rfl : kv.2 = y' := by simpa using hy2
    obtain ⟨hJ1, hJ2, ki, kj, hki, hkj, d1, d2⟩ := hJ od n Γ' hj'
    obtain ⟨_, _, _, _, hc⟩ := E'.sl s0 _ hJ1
    obtain ⟨es', hes, _, hR'⟩ := hc (A, .lck od kvs) (by simp)
    have ees : es' = es := by
      have h2 : (lkF F G A (.frz od (.dK es))).B A = some (.frz od (.dK es)) := upd_same
      rw [h2] at hes; cases hes; rfl
    subst ees
    obtain ⟨k, d, hk1, hk2, hk3⟩ := hR'.get hkv
    have E3 := E'.grow (.raw E'.gh (o := .tup [kV kv.1, kv.2]) hT)
    refine ⟨T, _, rfl, .inl (.inl upd_same), rfl, _, _, rfl, _, _, rfl, rfl, ?_⟩
    have E4 := E3.putD (i := i) (k := ki) (k' := .val (.int k)) (v := some (kV kv.1)) hki d1 (kat_val (by rw [hk1]; exact .int))
    have E5 := E4.putD (i := j) (k := kj) (k' := .val d) (v := some kv.2) (by rw [List.getElem?_set_ne hij]; exact hkj) d2 (kat_val hk3)
    refine wSs_mono (hb _ od n k d Γ' C1 hk2 hj' _ G' _ Fs' E5) (fun σ H ⟨G3, Γ3, Fs3, E6, z⟩ => ?_) (fun _ _ z => z.elim) (fun _ _ z => z.elim) (fun _ _ z => z.elim)
    exact ⟨G3, Γ3, Fs3, E6, z⟩
  · rw [elen] at hj'
    obtain ⟨hJ1, hJ2, _⟩ := hJ od _ Γ' hj'
    obtain ⟨h1, E3, _⟩ := E.unlockO h0s hB E' hJ1 hJ2
    exact ⟨h1, hd od Γ' hj' σ' _ _ Fs' E3⟩
/-- [elt for x in (an own dict that is read) if ..] -/
theorem np_lcKeys {tg : Expr} {fE : Int × PyData → PyData} {pT : Int × PyData → Bool} (C : Cok X M F N sc kk) (hn : ∀ k ∈ Γt, k.noA = true ∧ noRes k = true) (hx : Sel N (.arg (.obj (roDict v s Cc dx fs A kvs)) :: Γt) x (i + 1) k) (hd : k.dry = true)
    (hs : ∀ F' od Γ, Cok X M F' N sc kk → VP X F' (.arg (.obj (roLock v s Cc dx fs A od kvs)) :: Γ) src (.ref A)) (ok : blkC N sc scope [(x, i + 1)] = true) (hl : Loc (relS scope sc) x) (hf : (relS scope sc).names.lookup x = some .local ∨ (scope.names.lookup x == some .cell) = true)
    (hT : ∀ F' od, ∀ y ∈ kvs, ∀ s' H0 C0 cl fp, Cok (Xblk X scope s' H0 C0 cl fp) M F' N (relS scope sc) kk → TsP (Xblk X scope s' H0 C0 cl fp) F' (.arg (.obj (roLock v s Cc dx fs A od kvs)) :: Γt.set i (.val (.int y.1))) ifs (pT y))
    (hE : ∀ F' od, ∀ y ∈ kvs, pT y = true → ∀ s' H0 C0 cl fp, Cok (Xblk X scope s' H0 C0 cl fp) M F' N (relS scope sc) kk → EP (Xblk X scope s' H0 C0 cl fp) F' (.arg (.obj (roLock v s Cc dx fs A od kvs)) :: Γt.set i (.val (.int y.1))) elt (fE y))
    (hsF : ∀ x, foldedSetIterable src X.env x = pure x) : NP X F (.arg (.obj (roDict v s Cc dx fs A kvs)) :: Γt) (.ListComp elt [⟨.Name x px, src, ifs, 0⟩] scope pos) ((kvs.filter pT).map fE) := fun σ G H Fs E Q q => by
  have hn' : ∀ j k, j ≠ 0 → (Kd.arg (.obj (roDict v s Cc dx fs A kvs)) :: Γt)[j]? = some k → k.noA = true ∧ noRes k = true := fun j k hj hk => by
    cases j with
    | zero => exact absurd rfl hj
    | succ j => exact hn k (List.mem_of_getElem? (by simpa using hk))
  obtain ⟨es, hB, hH, hR, hcap, hE1⟩ := E.lockO (s0 := 0) rfl hn'
  refine ⟨_, pe_lock (pe_lc (own := [(x, i + 1)]) (g := gName (i + 1)) (tt := tSrc X scope ifs) (te := eSrc X scope elt) C.calm (by rw [C.hN]; exact C.nd) (pi_keys pe_w) (by rw [C.hN, C.hs]; exact blkOk_by ok) (fun s' H0 C0 cl fp => ?_) (fun s' H0 C0 cl fp => ⟨fun pins s1 σ H5 Q I h => ?_⟩) (fun s' H0 C0 cl fp => ⟨fun pins s1 σ H5 Q I h => ?_⟩) hsF), ?_⟩
  · have C' := C.blk (scope := scope) (s := s') (H := H0) (C0 := C0) (cl := cl) (fp := fp)
    refine pg_name (by rw [C'.hN]; exact C'.nd) (by rw [C'.hN]; exact hx.n) (by rw [C'.hs]; exact hl) ?_
    rcases hf with z | z
    · exact .inr (by rw [C'.hs]; exact z)
    · exact .inl z
  · obtain ⟨t, p1, p2⟩ := h s' H0 C0 cl fp
    exact p1.run pins s1 σ _ Q I p2
  · exact pe_w.run pins s1 σ _ Q I (h s' H0 C0 cl fp)
  · refine ⟨A, .dK es, hH, trivial, fun od => ?_⟩
    have E1 := hE1 od
    have C1 : Cok X M (lkF F G A (.frz od (.dK es))) N sc kk := cok_lk C
    refine hs _ od Γt C1 σ _ _ Fs E1 _ fun G2 H2 w2 => ?_
    have E2 := E1.grow w2
    have hl2 : H2 A = some (.frz od (.dK es)) := E2.bh _ _ upd_same
    refine ⟨A, od, rfl, .inl ⟨es, hl2, fun Da hD => ?_⟩⟩
    have elen := hR.len
    refine lc_it walk_keys (fun n H' => ∃ G', Lcs G2 H2 Da (((kvs.take n).filter pT).map fE) G' H') ⟨G2, Lcs.start w2.s hD⟩ (fun n H' _ ⟨G', L⟩ => L.w.h _ _ hl2) (fun n z H' H'' hlt ⟨G', L⟩ hy => ?_) fun H' ⟨G', L⟩ => ?_
    · obtain ⟨rfl, kk', vv, hkv, rfl⟩ := hy
      obtain ⟨_, _, _, _, hc⟩ := E2.sl 0 _ rfl
      obtain ⟨es', hes, _, hR'⟩ := hc (A, .lck od kvs) (by simp)
      have ees : es' = es := by
        have h2 : (lkF F G A (.frz od (.dK es))).B A = some (.frz od (.dK es)) := upd_same
        rw [h2] at hes; cases hes; rfl
      subst ees
      obtain ⟨k', d', hk1, hk2, hk3⟩ := hR'.get hkv
      have hk1' : kk' = Sum.inl k' := hk1
      subst hk1'
      have hm : (k', d') ∈ kvs := List.mem_of_getElem? hk2
      have hlt' : n < kvs.length := (List.getElem?_eq_some_iff.mp hk2).1
      have hx' : Sel N (.arg (.obj (roLock v s Cc dx fs A od kvs)) :: Γt) x (i + 1) k := by
        cases hx with | there h => exact .there h
      have hkn : kvs[n]? = some (k', d') := hk2
      refine lc_turn (G := G) (H := H) (dv := .int k') (y := (k', d')) fE pT hx' hd E2 hD L .int ?_ (fun s' H0 C0 cl fp => hT _ od (k', d') hm s' H0 C0 cl fp C1.blk) (fun z s' H0 C0 cl fp => hE _ od (k', d') hm z s' H0 C0 cl fp C1.blk) (fun z G3 H3 L3 => ⟨G3, ?_⟩) (fun z G3 H3 L3 => ⟨G3, ?_⟩)
      · rw [List.length_map]
        have := List.length_filter_le pT (kvs.take n)
        rw [List.length_take] at this
        omega
      · rw [take_filter_succ hkn, if_pos z, List.map_append]; exact L3
      · rw [take_filter_succ hkn, if_neg (by rw [z]; exact Bool.false_ne_true), List.append_nil]; exact L3
    · rw [elen, List.take_length] at L
      obtain ⟨ws, h2, r2⟩ := L.l
      have nA : ∀ G3 : Hp, lessG G A A = G3 A → True := fun _ _ => trivial
      have hAl : H' A = some (.frz od (.dK es)) := L.w.h _ _ hl2
      have hDA : Da ≠ A := fun z => by rw [z, hl2] at hD; cases hD
      refine ⟨hAl, ?_⟩
      have Ef := E2.grow L.w
      obtain ⟨_, E3, g3⟩ := E.unlockO (s0 := 0) rfl hB Ef rfl (fun j k hj hk => (hn' j k hj (by cases j with | zero => exact absurd rfl hj | succ j => simpa using hk)).1)
      have gAn : G' A = none := by
        have := Ef.go A (by show upd F.B A (.frz od (.dK es)) A ≠ none; rw [upd_same]; exact fun z => nomatch z)
        rw [this]; exact less_eq
      have gex : Ex G' (addG G' G A) := fun a o h => by
        rw [add_ne (fun z => by rw [z, gAn] at h; cases h)]; exact h
      have hHD : H Da = none := by
        have h1 : upd H A (.frz od (.dK es)) Da = none := w2.h.none hD
        rw [upd_ne hDA] at h1; exact h1
      have hGD : addG G' G A Da = none := by rw [add_ne hDA]; exact L.d
      have hwg : Grow G H (addG G' G A) (upd H' A (.dK es)) := by
        refine ⟨g3, E3.gh, fun a o h => ?_, fun a h => ?_⟩
        · by_cases z : a = A
          · rw [z, upd_same]; rw [z, hH] at h; exact h
          · rw [upd_ne z]
            exact L.w.h _ _ (w2.h a o (by rw [upd_ne z]; exact h))
        · by_cases z : a = A
          · rw [z, add_eq]
          · rw [add_ne z]
            have h1 : upd H A (.frz od (.dK es)) a ≠ none := by rw [upd_ne z]; exact h
            rw [L.w.o a (w2.h.some h1), w2.o a h1, less_ne z]
      refine q Da ws _ _ hwg hHD hGD (by rw [upd_ne hDA]; exact h2) ?_ (r2.mono gex)
      rw [List.length_map]
      exact Nat.le_trans (List.length_filter_le pT kvs) hcap
/-! ### more stores -/
/-- o[k] = e, o an own dict within a heaplet -/
theorem ws_dputV {m : Int} (C : Cok X M F N sc kk) (E : Env F G H σ Γ Fs) (hx : Kx Γ i (.res v (rsH cs))) (hc : CSel cs n A (.dic kvs)) (ho : VP X F Γ a (.ref A)) (hi : EP X F Γ b (.int m)) (h : EP X F Γ e d) (hlen : kvs.length < cap) {Γ' : List Kd} (hΓ : Γ.set i (.res v (rsH (cs.set n (A, .dic (dput kvs m d))))) = Γ') (q : ∀ G' H', Env F G' H' σ Γ' Fs → wSs X rest D σ H')
    (hs : noComp e = true := by rfl) : wSs X (.Assign [.Subscript a b pa] e pos :: rest) D σ H := by
  subst hΓ
  refine ws_cons ⟨_, ps_dput (hu_of C.room) pe_w pe_w pe_w (sw_no hs _ _ _), ?_⟩
  refine h σ G H Fs E _ fun u G1 H1 w1 r1 => ho σ G1 H1 Fs (E.grow w1) _ fun G2 H2 w2 => hi σ G2 H2 Fs ((E.grow w1).grow w2) _ fun y G3 H3 w3 r3 => ?_
  obtain rfl := r3.int_inv
  have E3 := ((E.grow w1).grow w2).grow w3
  obtain ⟨es, h1, h2, h3⟩ := kn_res hx hc σ G3 H3 Fs E3
  refine ⟨A, _, rfl, DPut.k (k := Sum.inl m) h1 (by rw [h3.len]; exact cap_lt hlen), ?_⟩
  exact q G3 _ (E3.chgH (c' := .dic (dput kvs m d)) hx.kd hc ⟨_, upd_same, Nat.le_trans (dput_len _ _ _) hlen, h3.put (r1.mono (w2.g.trans w3.g))⟩)
/-- o[i] = e, o an own list within a heaplet -/
theorem ws_lputV {m : Int} (C : Cok X M F N sc kk) (E : Env F G H σ Γ Fs) (hx : Kx Γ i (.res v (rsH cs))) (hc : CSel cs n A (.lst ds)) (ho : VP X F Γ a (.ref A)) (hi : EP X F Γ b (.int m)) (h : EP X F Γ e d) (h0 : 0 ≤ m) (h1 : m < ds.length) {Γ' : List Kd} (hΓ : Γ.set i (.res v (rsH (cs.set n (A, .lst (ds.set m.toNat d))))) = Γ') (q : ∀ G' H', Env F G' H' σ Γ' Fs → wSs X rest D σ H')
    (hs : noComp e = true := by rfl)
    (ha : ∀ v, assign (.Subscript a b pa) X.env v = (do
      let ov ← holding [v] (eval a X.env)
      let iv ← holding [v, ov] (eval b X.env)
      standAt pa
      holding [v, ov, iv] (setItem ov iv v)
      release [v, ov, iv] []) := by intro _; rfl)
    (hsw : swapsWithSole [.Subscript a b pa] e pos.line X.env = pure false := by rfl) (hst : swappedStores [.Subscript a b pa] e X.env = pure none := by rfl) : wSs X (.Assign [.Subscript a b pa] e pos :: rest) D σ H := by
  subst hΓ
  refine ws_cons ⟨_, ps_asg pe_w (pg_sub pe_w pe_w set_list ha) hsw hst, ?_⟩
  refine h σ G H Fs E _ fun u G1 H1 w1 r1 => ho σ G1 H1 Fs (E.grow w1) _ fun G2 H2 w2 => hi σ G2 H2 Fs ((E.grow w1).grow w2) _ fun y G3 H3 w3 r3 => ?_
  obtain rfl := r3.int_inv
  have E3 := ((E.grow w1).grow w2).grow w3
  obtain ⟨vs, l1, l2, l3⟩ := kn_res hx hc σ G3 H3 Fs E3
  refine ⟨A, vs, m, m.toNat, rfl, rfl, l1, ?_, q G3 _ (E3.chgH (c' := .lst (ds.set m.toNat d)) hx.kd hc ⟨_, upd_same, by rw [List.length_set]; exact l2, l3.set (r1.mono (w2.g.trans w3.g)) _⟩)⟩
  unfold ixN
  rw [if_pos h0, l3.len, if_pos h1]
theorem Env.rk {k' : Kd} (E : Env F G H σ Γ Fs) (hi : Γ[i]? = some k) (hk : KAt F G H k' (σ[i]?.join) (Fs i)) : Env F G H σ (Γ.set i k') Fs := by
  have h := E.adopt hi hk (fun a h => .inl h)
  have e : (fun j => if j = i then Fs i else Fs j) = Fs := by
    funext j
    by_cases e : j = i
    · rw [if_pos e, e]
    · rw [if_neg e]
  rw [e] at h
  exact h
theorem ep_afld {m : Int} (h : VP X F Γ (.Attribute e f pos) (.int m)) : EP X F Γ (.Attribute e f pos) (.int m) := ep_vint h
theorem lp_afld (h : VP X F Γ (.Attribute e f pos) (.ref A)) (hk : Kn F Γ A (.lst ds)) : LP X F Γ (.Attribute e f pos) ds := lp_v h hk
end
end Rn

namespace Rn
open PySem PySem.Spec PyProof.Rows L2

/-! ## any of a tuple of whole numbers -/
theorem truth_ints {prog : Program} {w : World} {A : Around} {ns : List Int} {its : List Value} (e : IntsAre its ns) :
    TruthOf prog w A (fun i v => its.toArray[i]? = some v) (fun i => ns.getD i 0 != 0) := fun i v s Q E hv hq => by
  have hv' : its[i]? = some v := by simpa using hv
  obtain ⟨t, ht⟩ := PyProof.Rows.IntsAre.int_at e i v hv'
  rw [ht]
  exact PySem.P.truthy_int hq
theorem any_rangeI (f : Int → Bool) : ∀ ns : List Int, (List.range ns.length).any (fun i => f (ns.getD i 0)) = ns.any f
  | [] => rfl
  | b :: bs => by
    rw [List.length_cons, List.range_succ_eq_map, List.any_cons, List.any_map, List.any_cons, ← any_rangeI f bs]
    rfl
section
variable {X : Cx}
theorem cr_anyT (hc : X.calm = true) : CallR X (.builtin "any") (fun vs H Q => ∃ (a : Addr) (ns : List Int), vs = [V.ref a] ∧ SqT X.K H a (ns.map V.int) ∧ Q (.bl (ns.any fun n => n != 0)) H) := by
  intro pins s σ H vs us Q I r h
  obtain ⟨a, ns, rfl, hs, q⟩ := h
  obtain ⟨its, rv, hl, _⟩ := I.tuple hs
  rw [Vals.ref1 r]
  have hb := ints_of_vals rv
  have hlt : a < s.heap.objs.size := by obtain ⟨_, e, _⟩ := hl; exact Heap.lt_size e
  have ht : s.heap.IsTuple a its.toArray := hl
  refine call_any_walk (wpAny_pyIter_tuple ht ?_)
  refine ⟨_, _, _, _, _, _, _, rfl, Walks.tuple (A := X.A.in1) (I.ok.hd hc) s.heap.objs.size a (Nat.ne_of_lt hlt) its.toArray, ⟨⟨_, Heap.get?_push_size _ rfl, rfl, rfl⟩, ht.push _⟩, truth_ints hb, fun h' tk hk => ?_⟩
  refine ⟨.bl _, H, I.kept fun b o eo => hk b o (fun hmem => ?_) (Heap.get?_push_of_some _ eo), ?_, q⟩
  · rcases List.mem_cons.mp hmem with e1 | hmem
    · exact absurd (e1 ▸ Heap.lt_size eo) (Nat.lt_irrefl _)
    · cases hmem
  · show Value.bool _ = Value.bool _
    rw [← any_rangeI, List.size_toArray, IntsAre.length hb]
end
section
variable {X : Cx} {M : Md} {F : Fr} {N : List Str} {sc scope : Scope} {kk : Nat} {Γ Γt Γ1 Γ' : List Kd} {e a b c elt src : Expr} {es ifs : List Expr} {rest body : List Stmt} {st : Stmt} {D : Ends} {σ : L2.St} {G H : Hp} {Fs : Nat → Addr → Prop} {d da db d1 d2 : PyData} {ds : List PyData} {p pos px py pa pc pt : Pos} {x y f m : Str} {i j n : Nat} {k k2 : Kd} {v : V} {s q A B0 dx Cc : Addr} {fs fs' : List (Str × V)} {cs : List (Addr × Cl)} {cl : Cl} {kvs : List (Int × PyData)}
theorem ep_anyT {ns : List Int} (C : Cok X M F N sc kk) (hm : M.mg "any" = none) (ha : EP X F Γ a (.tuple (ns.map .int))) (hg : sc.names.lookup ("any" : Str) = some .globalImplicit) (pl : plainE a = true := by rfl) : EP X F Γ (.Call (.Name "any" p) [a] [] pos) (.bool (ns.any fun n => n != 0)) := fun σ G H Fs E Q q => by
  refine ⟨_, pe_callB (cr_anyT C.calm) (gl_of C hg) (C.mgn hm) (by decide +kernel) (pa_cons pe_w pa_nil (star_plain pl _ _)) (he := star_plain pl _ _), ?_⟩
  refine ha σ G H Fs E _ fun x G1 H1 w1 r1 => ?_
  obtain ⟨p, vs, rfl, h1, hc, r1⟩ := r1.tup_inv
  obtain rfl := r1.ints_inv
  exact ⟨p, ns, rfl, .inl (.inl (w1.s _ _ h1)), q _ _ _ w1 .bl⟩
theorem ep_all {bs : List Bool} (C : Cok X M F N sc kk) (hm : M.mg "all" = none) (ha : LP X F Γ a (bs.map .bool)) (hg : sc.names.lookup ("all" : Str) = some .globalImplicit) (pl : plainE a = true := by rfl) : EP X F Γ (.Call (.Name "all" p) [a] [] pos) (.bool (bs.all id)) := fun σ G H Fs E Q q => by
  refine ⟨_, pe_callB (cr_all C.calm) (gl_of C hg) (C.mgn hm) (by decide +kernel) (pa_cons pe_w pa_nil (star_plain pl _ _)) (he := star_plain pl _ _), ?_⟩
  refine ha σ G H Fs E _ fun p vs G1 H1 w1 h1 hc r1 => ?_
  obtain rfl := r1.bls_inv
  exact ⟨p, bs, rfl, .inl (.inl h1), q _ _ _ w1 .bl⟩
/-- a list or tuple as a test -/
theorem tp_lstE (ha : EP X F Γ e (.list ds)) (he : ∀ whole, isTrue e X.env whole = (do let v ← whole; standAt e.pos; holding [v] (truthy v))) : TP_ X F Γ e (!ds.isEmpty) := tp_lst ha.lp he
end
theorem osnd_none {os : List (Option Nat)} (h : OsNd os) : OsNd (none :: os) := fun j j' i h1 h2 => by
  cases j with
  | zero => simp at h1
  | succ j => cases j' with
    | zero => simp at h2
    | succ j' => rw [h j j' i (by simpa using h1) (by simpa using h2)]
theorem osnd_some {os : List (Option Nat)} {i : Nat} (h : OsNd os) (hn : os.contains (some i) = false) : OsNd (some i :: os) := fun j j' l h1 h2 => by
  have hn' : some i ∉ os := by simpa using hn
  cases j with
  | zero => cases j' with
    | zero => rfl
    | succ j' =>
      obtain rfl : i = l := by simpa using h1
      exact absurd (List.mem_of_getElem? (by simpa using h2)) hn'
  | succ j => cases j' with
    | zero =>
      obtain rfl : i = l := by simpa using h2
      exact absurd (List.mem_of_getElem? (by simpa using h1)) hn'
    | succ j' => rw [h j j' l (by simpa using h1) (by simpa using h2)]
theorem osnd_nil : OsNd [] := fun j j' i h1 h2 => by simp at h1
def osNdB : List (Option Nat) → Bool
  | [] => true
  | none :: os => osNdB os
  | some i :: os => !(os.contains (some i)) && osNdB os
theorem osnd_of : ∀ {os : List (Option Nat)}, osNdB os = true → OsNd os
  | [], _ => osnd_nil
  | none :: os, h => osnd_none (osnd_of h)
  | some i :: os, h => by
    unfold osNdB at h
    rw [Bool.and_eq_true] at h
    exact osnd_some (osnd_of h.2) (by simpa using h.1)
end Rn

namespace Rn
open PySem PySem.Spec PyProof.Rows L2

/-! ## an object beside a datum -/
def pairR (r : Rs) (d : PyData) : Rs where
  at_ := fun G H T P => ∃ t v u P', T = .ref t ∧ H t = some (.tup [v, u]) ∧ Rp G u d ∧ r.at_ G H v P' ∧ (∀ a, P a ↔ a = t ∨ P' a) ∧ ¬ P' t
  loc := fun ⟨t, v, u, P', h1, h2, h3, h4, h5, h6⟩ g e => ⟨t, v, u, P', h1, (e t ((h5 t).mpr (.inl rfl))).trans h2, h3.mono g, r.loc h4 g fun a ha => e a ((h5 a).mpr (.inr ha)), h5, h6⟩
section
variable {X : Cx} {M : Md} {F : Fr} {N : List Str} {sc scope : Scope} {kk : Nat} {Γ Γt Γ1 Γ' : List Kd} {e a b c elt src : Expr} {es ifs : List Expr} {rest body : List Stmt} {st : Stmt} {D : Ends} {σ : L2.St} {G H : Hp} {Fs : Nat → Addr → Prop} {d da db d1 d2 : PyData} {ds : List PyData} {p pos px py pz pa pc pt pq : Pos} {x y z f m : Str} {i j l n : Nat} {k k2 k3 : Kd} {v : V} {s q A B0 dx Cc : Addr} {fs fs' : List (Str × V)} {cs : List (Addr × Cl)} {cl : Cl} {kvs : List (Int × PyData)} {r : Rs} {o : V → Kd}
theorem me_pair {u : Nat} (C : Cok X M F N sc kk) (h : Sel N Γ x i (.res v r)) (hv : Vis sc x) (he : EP X F Γ e d) (hΓ : Γ.set i .un = Γ') (hd : (x == ("__debug__" : Str)) = false) (hcd : (x == ("__classdict__" : Str)) = false) (pl : plainE e = true := by rfl) :
    ME X F Γ (.Tuple [.Name x px, e] u pos) (fun T => .res T (pairR r d)) Γ' := fun σ G H Fs E Q q => by
  subst hΓ
  refine ⟨_, pe_tup (pa_cons pe_w (pa_cons pe_w pa_nil (star_plain pl _ _))), ?_⟩
  obtain ⟨h1, h2⟩ := E.sl i _ h.k
  refine w_name C h hv h1 ?_ hd hcd
  refine he σ G H Fs E _ fun w G1 H1 w1 r1 => ⟨by simp [sizeLine_eq], fun t ht => ?_⟩
  have E1 := E.grow w1
  obtain ⟨h1, h2⟩ := E1.sl i _ h.k
  have hi := h.k
  have hi' : i < Γ.length := (List.getElem?_eq_some_iff.mp hi).1
  have E2 := E1.grow (.raw E1.gh (o := .tup [v, w]) ht)
  have nt : ∀ j, ¬ Fs j t := fun j z => (E1.fp j t z).2.2.1 ht
  -- the thing and its tuple come behind the names
  have E3 := E2.sub (σ2 := σ) (Γ2 := Γ.set i .un) (fun j => if j = i then none else if j < Γ.length then some j else none) (by rw [List.length_set]; exact E.len) (fun j k' hk => by
    by_cases e : j = i
    · subst e
      rw [List.getElem?_set_self hi'] at hk
      exact .inl ⟨if_pos rfl, (Option.some.inj hk).symm⟩
    · rw [List.getElem?_set_ne (Ne.symm e)] at hk
      have hj := (List.getElem?_eq_some_iff.mp hk).1
      exact .inr ⟨j, by rw [if_neg e, if_pos hj], hk, rfl⟩) (fun j j' i' z1 z2 => by
    split at z1
    · cases z1
    · split at z1
      · split at z2
        · cases z2
        · split at z2
          · exact (Option.some.inj z1).trans (Option.some.inj z2).symm
          · cases z2
      · cases z1) (fun j i' z1 => by
    rw [List.length_set]
    split at z1
    · cases z1
    · split at z1
      · assumption
      · cases z1)
  have hG1t : G1 t = none := E1.gh.none ht
  refine q (.ref t) G1 _ _ (E3.more (k := .res (.ref t) (pairR r d)) (x := some (.ref t)) (P := fun a => a = t ∨ Fs i a) ⟨rfl, t, v, w, Fs i, rfl, upd_same, r1, ?_, fun _ => .rfl, nt i⟩ fun a ha => ?_)
  · exact r.loc h2 (.refl G1) fun a ha => upd_ne fun z => nt i (by rw [← z]; exact ha)
  · rcases ha with rfl | ha
    · exact ⟨E1.bh.none ht, hG1t, (by rw [upd_same]; exact fun z => nomatch z), fun j ⟨i', _, z⟩ => nt i' z⟩
    · have f := E1.fp i a ha
      have hne : a ≠ t := fun z => nt i (by rw [← z]; exact ha)
      refine ⟨f.1, f.2.1, by rw [upd_ne hne]; exact f.2.2.1, fun j ⟨i', z1, z2⟩ => ?_⟩
      have : i' = i := E1.dis i' i a z2 ha
      subst this
      split at z1
      · cases z1
      · rename_i hne
        split at z1
        · exact hne (Option.some.inj z1)
        · cases z1
/-- a, b = e: the object and the datum -/
theorem ws_unpackM {u : Nat} (C : Cok X M F N sc kk) (B : Bok X) (E : Env F G H σ Γ Fs) (h : ME X F Γ e (fun T => .res T (pairR r d)) Γ1) (hx : Sel N Γ1 x i k) (hl : Loc sc x) (hy : Sel N Γ1 y j k2) (hl2 : Loc sc y) (hij : i ≠ j) (hd2 : k2.dry = true) {Γ' : V → List Kd} (hΓ : ∀ v, (Γ1.set i (.res v r)).set j (.val d) = Γ' v)
    (q : ∀ v σ' G' H' Fs', Env F G' H' σ' (Γ' v) Fs' → wSs X rest D σ' H') (hsw : swapsWithSole [.Tuple [.Name x px, .Name y py] u pt] e pos.line X.env = pure false) (hst : swappedStores [.Tuple [.Name x px, .Name y py] u pt] e X.env = pure none) :
    wSs X (.Assign [.Tuple [.Name x px, .Name y py] u pt] e pos :: rest) D σ H := by
  refine ws_cons ⟨_, ps_asg pe_w (pg_tup C.calm (pgs_cons (pg_nm C B hx.n hl) (pgs_cons (pg_nm C B hy.n hl2) pgs_nil))) hsw hst, ?_⟩
  refine h σ G H Fs E _ fun T G1 H1 Fs1 E1 => ?_
  have ln := E1.len
  rw [List.length_append, List.length_append] at ln
  have ln' : σ.length = Γ1.length := by simpa using ln
  have s := E1.sl Γ1.length (.res T (pairR r d)) (by simp)
  rw [← ln', List.getElem?_append_right (Nat.le_refl _), Nat.sub_self, ln'] at s
  obtain ⟨hT, t, v, w, P', rfl, hTt, hw, hr, hP, hnt⟩ := s
  refine ⟨t, [v, w], rfl, .inl (.inl hTt), rfl, _, _, rfl, _, [], rfl, rfl, ?_⟩
  have hi' : i < Γ1.length := (List.getElem?_eq_some_iff.mp hx.k).1
  have hj' : j < Γ1.length := (List.getElem?_eq_some_iff.mp hy.k).1
  -- slot Γ1.length: from the pair to the object alone
  have E2 := E1.adopt (i := Γ1.length) (k := .res (.ref t) (pairR r d)) (k' := .un) (P := fun _ => False) (by simp) (fun _ z => z) (fun _ z => z.elim)
  have E3 : Env F G1 H1 σ Γ1 _ := (E2.sub (σ2 := σ) (Γ2 := Γ1) (fun j => if j < Γ1.length then some j else none) ln' (fun j k' hk => by
    have hj := (List.getElem?_eq_some_iff.mp hk).1
    refine .inr ⟨j, if_pos hj, ?_, by rw [get_app (by rw [ln']; exact hj)]⟩
    rw [List.getElem?_set_ne (by omega), get_app hj]; exact hk) (fun j j' i' z1 z2 => by
    split at z1
    · split at z2
      · exact (Option.some.inj z1).trans (Option.some.inj z2).symm
      · cases z2
    · cases z1) (fun j i' z1 => by
    split at z1
    · assumption
    · cases z1))
  have E4 := E3.more (k := .res v r) (x := some v) (P := P') ⟨rfl, hr⟩ (fun a ha => by
    have hfa : Fs1 Γ1.length a := (hP a).mpr (.inr ha)
    have f := E1.fp _ a hfa
    refine ⟨f.1, f.2.1, f.2.2.1, fun j' ⟨i', z1, z2⟩ => ?_⟩
    split at z1
    · rename_i hlt
      obtain rfl := Option.some.inj z1
      have hne : ¬ j' = Γ1.length := by omega
      simp only [hne, if_false] at z2
      exact hne (E1.dis j' _ a z2 hfa)
    · cases z1)
  obtain ⟨Fs5, E5⟩ := E4.move hi'
  have E6 := E5.putD (i := j) (k := k2) (k' := .val d) (v := some w) (by rw [List.getElem?_set_ne hij]; exact hy.k) hd2 (kat_val hw)
  rw [hΓ v] at E6
  exact q v _ G1 H1 Fs5 E6
/-- C() -/
theorem me_make0 {R : List Kd → List Kd → (V → Kd) → Prop} {RX : List Kd → List Kd → Addr → Prop} {k : Nat} (C : Cok X M F N sc kk) (h : MkM M k x Cc R RX) (hk : k + 1 ≤ kk) (hg : sc.names.lookup x = some .globalImplicit) (hno : ∀ v, (o v).noA = true)
    (hr : ∀ I dx, R [.res (.ref I) (rsH [(I, .ins Cc dx [])])] [o (.ref I)] (fun _ => .val .none) ∧ PinK [.res (.ref I) (rsH [(I, .ins Cc dx [])])] [o (.ref I)])
    (hd : (x == ("__debug__" : Str)) = false := by decide) : ME X F Γ (.Call (.Name x p) [] [] pos) o Γ := fun σ G H Fs E Q q => by
  obtain ⟨f, fd, ps, h1, h2, h3, h4⟩ := h.at_ C
  refine ⟨_, pe_make0 h2 h1 (C.room.mono hk) (gl_of C hg) h3 h4 .nil passL hd, ?_⟩
  intro I dx nI ndx hne
  obtain ⟨Fs1, E2, hF⟩ := E.newI (Cc := Cc) nI ndx hne
  obtain ⟨hr, hp⟩ := hr I dx
  have hin : (Γ ++ [Kd.res (.ref I) (rsH [(I, .ins Cc dx [])])])[Γ.length]? = some (.res (.ref I) (rsH [(I, .ins Cc dx [])])) := by simp
  have r3 : Ag F G (offM (upd (upd H dx (.own I)) I (.ins Cc dx [])) Fs1 (muO [some Γ.length])) (upd (upd H dx (.own I)) I (.ins Cc dx [])) (Γ ++ [Kd.res (.ref I) (rsH [(I, .ins Cc dx [])])]) (muO [some Γ.length]) [.ref I] [Kd.res (.ref I) (rsH [(I, .ins Cc dx [])])] [some Γ.length] := .mt (by simp [muO]) hin rfl .nil
  have nd2 : OsNd [some Γ.length] := osnd_of rfl
  refine ⟨_, _, _, _, E2.callee r3 nd2, .inl ⟨_, _, hr, fun v G2 H2 Fs2 E3 => ?_⟩⟩
  obtain ⟨Fs3, E4⟩ := E2.back r3 nd2 muO_cov E3 hp.len hp.noA (by intro k hk; rw [List.mem_singleton] at hk; rw [hk]; rfl)
  obtain ⟨Fs4, E5⟩ := E4.drop
  have ev : v = .non := by
    have s := E4.sl (σ ++ [some (V.ref I)]).length (.val .none) (by
      rw [List.getElem?_append_right (by rw [upK_len, List.length_append, List.length_append, E.len]; exact Nat.le_refl _), upK_len, List.length_append, List.length_append, E.len]
      simp)
    rw [List.getElem?_append_right (Nat.le_refl _), Nat.sub_self] at s
    obtain ⟨_, u, z1, z2⟩ := s
    obtain rfl : v = u := by simpa using z1
    exact z2.non_inv
  refine ⟨ev, ?_⟩
  have eΓ : upK (Γ ++ [Kd.res (.ref I) (rsH [(I, .ins Cc dx [])])]) [some Γ.length] [o (.ref I)] = Γ ++ [o (.ref I)] := by
    rw [upK, upK, List.set_append_right _ _ (Nat.le_refl _), Nat.sub_self]; rfl
  rw [eΓ] at E5
  exact q _ G2 H2 Fs4 E5
/-- self.f = {} -/
theorem ws_fldD {gs : V → List (Str × V)} (C : Cok X M F N sc kk) (E : Env F G H σ Γ Fs) (hx : Kx Γ i (.res v (rsH cs))) (hc : CSel cs n A (.ins Cc dx fs)) (ho : VP X F Γ a (.ref A)) (T : Cls M.K Cc) (na : NoAttr M.K Cc f) (hp : ∀ u, FPut f u fs (gs u)) (hl : fs.length < 1000) {Γ' : Addr → List Kd} (hΓ : ∀ u, Γ.set i (.res v (rsH ((u, .dic []) :: cs.set n (A, .ins Cc dx (gs (.ref u)))))) = Γ' u) (q : ∀ u G' H' Fs', Env F G' H' σ (Γ' u) Fs' → wSs X rest D σ H') :
    wSs X (.Assign [.Attribute a f pa] (.Dict [] [] p) pos :: rest) D σ H := by
  refine ws_cons ⟨_, ps_fld pe_w pe_dnewK (sw_no rfl _ _ _), fun u hu => ?_⟩
  have g1 := Grow.raw (G := G) (o := .dK []) E.gh hu
  refine ho σ G _ Fs (E.grow g1) _ fun G2 H2 w2 => ?_
  have E2 := (E.grow g1).grow w2
  refine ⟨A, Cc, dx, fs, rfl, kn_res hx hc σ G2 H2 Fs E2, by rw [C.hK]; exact T, by rw [C.hK]; exact na, hl, ?_⟩
  rw [(hp _).put]
  have E3 := E2.chgH (c' := .ins Cc dx (gs (.ref u))) (o := .ins Cc dx (gs (.ref u))) hx.kd hc upd_same
  have hi3 : (Γ.set i (.res v (rsH (cs.set n (A, .ins Cc dx (gs (.ref u)))))))[i]? = some (.res v (rsH (cs.set n (A, .ins Cc dx (gs (.ref u)))))) := List.getElem?_set_self (List.getElem?_eq_some_iff.mp hx.kd).1
  have hA : H A ≠ none := (kn_res hx hc σ G H Fs E).some
  have hne : u ≠ A := fun z => hA (z ▸ hu)
  have h1' : H2 u = some (.dK []) := w2.h _ _ upd_same
  have hgu : G2 u = none := (w2.o u (by rw [upd_same]; exact fun z => nomatch z)).trans (E.gh.none hu)
  obtain ⟨Fs', E4⟩ := E3.take (p := u) (c := .dic []) hi3 ⟨[], by rw [upd_ne hne]; exact h1', Nat.zero_le _, .nil⟩ (E.bh.none hu) hgu (fun j z => (E.fp j u z).2.2.1 hu)
  rw [List.set_set, hΓ u] at E4
  exact q u G2 _ Fs' E4
/-- for n, (p, v) in enumerate(a list that is read) -/
theorem ws_forEnum {α : Type} {f1 f2 : α → PyData} {xs : List α} {w : Str} {pw pe p2 : Pos} {iw u1 u2 : Nat} (Rt : Fr → VK) (J : Nat → List Kd → Prop) (C : Cok X M F N sc kk) (B : Bok X) (E : Env F G H σ Γ Fs) (hm : M.mg "enumerate" = none) (hg : sc.names.lookup ("enumerate" : Str) = some .globalImplicit)
    (hx : N[i]? = some x) (hl : Loc sc x) (hy : N[j]? = some y) (hl2 : Loc sc y) (hz : N[l]? = some z) (hl3 : Loc sc z) (hij : i ≠ j) (hil : i ≠ l) (hjl : j ≠ l) (hs : Sel N Γ w iw (.arg (.lst (xs.map fun a => .tuple [f1 a, f2 a])))) (hu : Vis sc w) (hR : RtMono Rt) (hD : D.rt = Rt F)
    (hJ : ∀ n Γ', J n Γ' → ∃ k k2 k3, Γ'[i]? = some k ∧ Γ'[j]? = some k2 ∧ Γ'[l]? = some k3 ∧ k.dry = true ∧ k2.dry = true ∧ k3.dry = true) (h0 : J 0 Γ)
    (hb : ∀ G1, Cok X M (F.pin G1) N sc kk → ∀ n a Γ', xs[n]? = some a → J n Γ' → ∀ σ G H Fs, Env (F.pin G1) G H σ (((Γ'.set i (.val (.int (n : Int)))).set j (.val (f1 a))).set l (.val (f2 a))) Fs → wSs X body (loopE (F.pin G1) Rt (J (n + 1)) fun _ => False) σ H)
    (he : ∀ Γ', J xs.length Γ' → ∀ σ G H Fs, Env F G H σ Γ' Fs → wSs X rest D σ H) (hd : (w == ("__debug__" : Str)) = false) (hcd : (w == ("__classdict__" : Str)) = false) :
    wSs X (.For (.Tuple [.Name x px, .Tuple [.Name y py, .Name z pz] u1 pt] u2 p2) (.Call (.Name "enumerate" pe) [.Name w pw] [] pc) body [] pos :: rest) D σ H := by
  refine ws_cons ⟨_, ps_for (passB B) C.calm (pi_enum (gl_of C hg) (C.mgn hm) (pa_cons pe_w pa_nil)) (pg_tup C.calm (pgs_cons (pg_nm C B hx hl) (pgs_cons (pg_tup C.calm (pgs_cons (pg_nm C B hy hl2) (pgs_cons (pg_nm C B hz hl3) pgs_nil))) pgs_nil))) pss_w (fold_no rfl X.env), ?_⟩
  obtain ⟨_, v, h1, a, vs, rfl, h3, hc, r1⟩ := E.sl iw _ hs.k
  refine w_name C hs hu h1 ?_ hd hcd
  refine ⟨a, vs, rfl, .inl (.inl (E.bh _ _ h3)), ?_⟩
  have el : vs.length = xs.length := by rw [r1.len, List.length_map]
  refine for_it walk_enum (fun n σ H' => ∃ G' Γ Fs, Env (F.pin G) G' H' σ Γ Fs ∧ J n Γ) ⟨G, Γ, Fs, E.pin E (.refl G), h0⟩ (fun n σ' H' _ ⟨G', Γ', Fs', E', _⟩ => .inl (.inl (E'.bh _ _ h3))) (fun n v σ' H' H'' hlt ⟨G', Γ', Fs', E', hj⟩ hyy => ?_) fun σ' H' ⟨G', Γ', Fs', E', hj⟩ => ?_
  · obtain ⟨T, x', y', rfl, hT, rfl, hx', hy'⟩ := hyy
    obtain rfl : V.int (n : Nat) = x' := Option.some.inj hx'
    have hy2 : vs[n]? = some y' := hy'
    obtain ⟨dv, hdv, rv⟩ := r1.get' hy2
    rw [List.getElem?_map] at hdv
    cases hq : xs[n]? with
    | none => rw [hq] at hdv; cases hdv
    | some aa =>
      rw [hq] at hdv
      obtain rfl := Option.some.inj hdv
      obtain ⟨t2, ws, rfl, ht2, _, rw2⟩ := rv.tup_inv
      cases rw2 with
      | @cons va _ _ _ ra rw3 =>
        cases rw3 with
        | @cons vb _ _ _ rb rw4 =>
          cases rw4
          obtain ⟨k, k2, k3, hk, hk2, hk3, d1, d2, d3⟩ := hJ n Γ' hj
          have E3 := E'.grow (.raw E'.gh (o := .tup [V.int (n : Nat), .ref t2]) hT)
          have ht2' : upd H' T (HO.tup [V.int (n : Nat), .ref t2]) t2 = some (.tup [va, vb]) := by
            have := E3.gh _ _ (E3.g0 _ _ ht2); exact this
          refine ⟨T, _, rfl, .inl (.inl upd_same), rfl, _, _, rfl, _, _, rfl, ⟨t2, _, rfl, .inl (.inl ht2'), rfl, _, _, rfl, _, _, rfl, rfl, rfl, ?_⟩⟩
          have E4 := E3.putD (i := i) (k' := .val (.int (n : Int))) (v := some (V.int (n : Nat))) hk d1 (kat_val .int)
          have E5 := E4.putD (i := j) (k' := .val (f1 aa)) (v := some _) (by rw [List.getElem?_set_ne hij]; exact hk2) d2 (kat_val (ra.mono E'.g0))
          have E6 := E5.putD (i := l) (k' := .val (f2 aa)) (v := some _) (by rw [List.getElem?_set_ne hjl, List.getElem?_set_ne hil]; exact hk3) d3 (kat_val (rb.mono E'.g0))
          refine wSs_mono (hb G C.pin n aa Γ' hq hj _ G' _ Fs' E6) (fun _ _ z => z) (fun v H z => ?_) (fun _ _ ⟨_, _, _, _, z⟩ => z.elim) (fun _ _ z => z)
          show D.rt v H
          rw [hD]
          exact hR F G E.g0 E.go v H z
  · rw [el] at hj
    exact he Γ' hj σ' G' H' Fs' (E.unpin E')
end
end Rn

namespace Rn
open PySem PySem.Spec PyProof.Rows L2

/-! ## one's own thing, only read from here on -/
open Classical in
noncomputable def rdF (F : Fr) (H : Hp) (P : Addr → Prop) : Fr := ⟨F.K, fun a => if P a then H a else F.B a, F.G0⟩
theorem rdF_y {F : Fr} {H : Hp} {P : Addr → Prop} {a : Addr} (h : P a) : (rdF F H P).B a = H a := by
  unfold rdF
  exact if_pos h
theorem rdF_n {F : Fr} {H : Hp} {P : Addr → Prop} {a : Addr} (h : ¬ P a) : (rdF F H P).B a = F.B a := by
  unfold rdF
  exact if_neg h
section
variable {X : Cx} {M : Md} {F : Fr} {N : List Str} {sc scope : Scope} {kk : Nat} {Γ Γt Γ1 Γ' Γ2 : List Kd} {e a b c elt src : Expr} {es ifs : List Expr} {rest body : List Stmt} {st : Stmt} {D : Ends} {σ : L2.St} {G H : Hp} {Fs : Nat → Addr → Prop} {d da db d1 d2 : PyData} {ds : List PyData} {p pos px py pz pa pc pt pq : Pos} {x y z f m : Str} {i j l n : Nat} {k k2 k3 : Kd} {v : V} {s q A B0 dx Cc : Addr} {fs fs' : List (Str × V)} {cs : List (Addr × Cl)} {cl : Cl} {kvs : List (Int × PyData)} {r : Rs} {ro : Ro} {o : V → Kd}
theorem cok_rd {P : Addr → Prop} (C : Cok X M F N sc kk) : Cok X M (rdF F H P) N sc kk := ⟨C.hP, C.hw, C.hK, C.hF, C.hM, C.hb, C.hN, C.hs, C.nd, C.calm, C.room⟩
theorem rdF_ex (E : Env F G H σ Γ Fs) (i : Nat) : Ex F.B (rdF F H (Fs i)).B := fun a o h => by
  by_cases z : Fs i a
  · rw [(E.fp i a z).1] at h; cases h
  · rw [rdF_n z]; exact h
theorem Env.read (E : Env F G H σ Γ Fs) (hi : Γ[i]? = some (.res v r)) (hr : Rd_ v r ro) : Env (rdF F H (Fs i)) G H σ (Γ.set i (.arg (.obj ro))) (fun j => if j = i then fun _ => False else Fs j) := by
  have hi' : i < Γ.length := (List.getElem?_eq_some_iff.mp hi).1
  refine ⟨E.gh, fun a o h => ?_, E.g0, fun a h => ?_, by rw [List.length_set]; exact E.len, fun j k hk => ?_, fun j l a h1 h2 => ?_, fun j a h => ?_⟩
  · by_cases z : Fs i a
    · rw [rdF_y z] at h; exact h
    · rw [rdF_n z] at h; exact E.bh a o h
  · by_cases z : Fs i a
    · have h1 := (E.fp i a z).2.1
      rw [h1]
      exact (E.g0.none h1).symm
    · rw [rdF_n z] at h; exact E.go a h
  · by_cases e : j = i
    · subst e
      rw [List.getElem?_set_self hi'] at hk
      obtain rfl := Option.some.inj hk
      obtain ⟨h1, h2⟩ := E.sl j _ hi
      simp only [if_true]
      exact ⟨fun _ z => z, v, h1, hr G H _ _ h2 fun a ha => rdF_y ha⟩
    · rw [List.getElem?_set_ne (Ne.symm e)] at hk
      simp only [e, if_false]
      have s := E.sl j k hk
      cases k with
      | arg ar => obtain ⟨h0, u, h1, h2⟩ := s; exact ⟨h0, u, h1, h2.mono (.refl _) (rdF_ex E i)⟩
      | un => exact s
      | val d => exact s
      | own v ds => exact s
      | raw v => exact s
      | res v r => exact s
  · by_cases e1 : j = i
    · simp only [e1, if_true] at h1
    · by_cases e2 : l = i
      · simp only [e2, if_true] at h2
      · simp only [e1, e2, if_false] at h1 h2; exact E.dis j l a h1 h2
  · by_cases e1 : j = i
    · simp only [e1, if_true] at h
    · simp only [e1, if_false] at h
      have f := E.fp j a h
      refine ⟨?_, f.2.1, f.2.2.1, by rw [List.length_set]; exact f.2.2.2⟩
      rw [rdF_n fun z => e1 (E.dis j i a h z)]; exact f.1
theorem Env.unread {G2 H2 : Hp} {σ2 : L2.St} {Fs2 : Nat → Addr → Prop} (E : Env F G H σ Γ Fs) (E2 : Env (rdF F H (Fs i)) G2 H2 σ2 Γ2 Fs2) (hn : ∀ k ∈ Γ2, k.noA = true) : Env F G2 H2 σ2 Γ2 Fs2 :=
  ⟨E2.gh, (rdF_ex E i).trans E2.bh, E2.g0, fun a h => E2.go a ((rdF_ex E i).some h), E2.len, fun j k hk => (E2.sl j k hk).re (hn k (List.mem_of_getElem? hk)), E2.dis, fun j a h => ⟨(rdF_ex E i).none (E2.fp j a h).1, (E2.fp j a h).2⟩⟩
theorem Env.forget (E : Env F G H σ Γ Fs) (hi : Γ[i]? = some k) : ∃ Fs', Env F G H σ (Γ.set i .un) Fs' :=
  ⟨_, E.adopt (k' := .un) (P := fun _ => False) hi (fun _ z => z) (fun _ z => z.elim)⟩
/-- x[k] = e, x one's own list -/
theorem ws_putO {m : Int} (C : Cok X M F N sc kk) (E : Env F G H σ Γ Fs) (hx : Sel N Γ x i (.own v ds)) (hv : Vis sc x) (hi : EP X F Γ b (.int m)) (h : EP X F Γ e d) (h0 : 0 ≤ m) (h1 : m < ds.length) {Γ' : List Kd} (hΓ : Γ.set i (.own v (ds.set m.toNat d)) = Γ') (q : ∀ G' H' Fs', Env F G' H' σ Γ' Fs' → wSs X rest D σ H')
    (hd : (x == ("__debug__" : Str)) = false) (hcd : (x == ("__classdict__" : Str)) = false)
    (ha : ∀ v, assign (.Subscript (.Name x px) b pa) X.env v = (do
      let ov ← holding [v] (eval (.Name x px) X.env)
      let iv ← holding [v, ov] (eval b X.env)
      standAt pa
      holding [v, ov, iv] (setItem ov iv v)
      release [v, ov, iv] []) := by intro _; rfl)
    (hsw : swapsWithSole [.Subscript (.Name x px) b pa] e pos.line X.env = pure false := by rfl) (hst : swappedStores [.Subscript (.Name x px) b pa] e X.env = pure none := by rfl) : wSs X (.Assign [.Subscript (.Name x px) b pa] e pos :: rest) D σ H := by
  subst hΓ
  refine ws_cons ⟨_, ps_asg pe_w (pg_sub pe_w pe_w set_list ha) hsw hst, ?_⟩
  refine h σ G H Fs E _ fun u G1 H1 w1 r1 => ?_
  have E1 := E.grow w1
  obtain ⟨s1, A, vs, rfl, hP, s3, s4, s5⟩ := E1.sl i _ hx.k
  refine w_name C hx hv s1 ?_ hd hcd
  refine hi σ G1 H1 Fs E1 _ fun y G2 H2 w2 r2 => ?_
  obtain rfl := r2.int_inv
  have E2 := E1.grow w2
  refine ⟨A, vs, m, m.toNat, rfl, rfl, w2.h _ _ s3, ?_, ?_⟩
  · unfold ixN
    rw [if_pos h0, s5.len, if_pos h1]
  · refine q G2 _ _ (E2.chg hx.k (P := fun b => b = A) ⟨s1, A, _, rfl, fun _ => .rfl, upd_same, by rw [List.length_set]; exact s4, (s5.mono w2.g).set (r1.mono w2.g) _⟩ (fun b hb o ho => ?_) fun b hb => ?_)
    · rw [upd_ne fun z => hb ((hP b).mpr z)]; exact ho
    · subst hb; exact ⟨(by rw [upd_same]; exact fun z => nomatch z), .inl ((hP _).mpr rfl)⟩
/-- [d] * n -/
theorem np_rep {n : Int} (ha : LP X F Γ a [d]) (hb : EP X F Γ b (.int n)) (h0 : 0 ≤ n) (h1 : n ≤ 1000) : NP X F Γ (.BinOp a .Mult b pos) (List.replicate n.toNat d) := fun σ G H Fs E Q q => by
  refine ⟨_, pe_op op_rep pe_w pe_w, ?_⟩
  refine ha σ G H Fs E _ fun p vs G1 H1 w1 hp hc r1 => hb σ G1 H1 Fs (E.grow w1) _ fun y G2 H2 w2 r2 => ?_
  obtain rfl := r2.int_inv
  have lv : vs.length = 1 := by rw [r1.len]; rfl
  refine ⟨p, n, vs, rfl, rfl, w2.h _ _ hp, by omega, by omega, by rw [lv, Nat.one_mul]; exact cap_le (by unfold cap; omega), fun z hz => ?_⟩
  have w := w1.trans w2
  refine q z _ G2 _ (w.trans (.raw w.s hz)) (w.h.none hz) (w.s.none hz) upd_same (by rw [List.length_replicate]; unfold cap; omega) ?_
  have := (r1.mono w2.g).flat n.toNat
  rw [flat_one] at this
  exact this
/-- [elt for x, y in (a list of pairs)] -/
theorem cp_pairs {α : Type} {f1 f2 fE : α → PyData} {xs : List α} {u : Nat} (C : Cok X M F N sc kk) (hx : Sel N Γ x i k) (hd : k.dry = true) (hy : Sel N Γ y j k2) (hd2 : k2.dry = true) (hij : i ≠ j) (hs : LP X F Γ src (xs.map fun a => .tuple [f1 a, f2 a]))
    (ok : blkC N sc scope [(x, i), (y, j)] = true) (hl : Loc (relS scope sc) x) (hf : (relS scope sc).names.lookup x = some .local ∨ (scope.names.lookup x == some .cell) = true) (hl2 : Loc (relS scope sc) y) (hf2 : (relS scope sc).names.lookup y = some .local ∨ (scope.names.lookup y == some .cell) = true)
    (hE : ∀ z ∈ xs, ∀ s H0 C0 cl fp, Cok (Xblk X scope s H0 C0 cl fp) M F N (relS scope sc) kk → EP (Xblk X scope s H0 C0 cl fp) F ((Γ.set i (.val (f1 z))).set j (.val (f2 z))) elt (fE z)) :
    CP X F Γ elt (.Tuple [.Name x px, .Name y py] u pt) src [] scope (xs.map fE) := fun σ G H Fs E Q q => by
  refine ⟨_, gTup X.K 2 (gCons (gName i) (gCons (gName j) gNil)), tSrc X scope [], eSrc X scope elt, [(x, i), (y, j)], pi_list pe_w, by rw [C.hN, C.hs]; exact blkOk_by ok, fun s H C0 cl fp => ?_, fun s H C0 cl fp => ⟨fun pins s1 σ H5 Q I h => ?_⟩, fun s H C0 cl fp => ⟨fun pins s1 σ H5 Q I h => ?_⟩, ?_⟩
  · have C' := C.blk (scope := scope) (s := s) (H := H) (C0 := C0) (cl := cl) (fp := fp)
    have one : ∀ {x : Str} {i : Nat} {px : Pos}, N[i]? = some x → Loc (relS scope sc) x → ((relS scope sc).names.lookup x = some .local ∨ (scope.names.lookup x == some .cell) = true) → PG (Xblk X scope s H C0 cl fp) (.Name x px) (gName i) := fun hx hl hf => by
      refine pg_name (by rw [C'.hN]; exact C'.nd) (by rw [C'.hN]; exact hx) (by rw [C'.hs]; exact hl) ?_
      rcases hf with z | z
      · exact .inr (by rw [C'.hs]; exact z)
      · exact .inl z
    exact pg_tup C'.calm (pgs_cons (one hx.n hl hf) (pgs_cons (one hy.n hl2 hf2) pgs_nil))
  · obtain ⟨t, p1, p2⟩ := h s H C0 cl fp
    exact p1.run pins s1 σ _ Q I p2
  · exact pe_w.run pins s1 σ _ Q I (h s H C0 cl fp)
  · refine hs σ G H Fs E _ fun a vs G1 H1 w1 h1 hc r1 => ?_
    refine ⟨a, rfl, ⟨vs, .inl (.inl (by rw [h1]))⟩, fun D hD => ?_⟩
    have E1 := E.grow w1
    have lv : vs.length = xs.length := by rw [r1.len, List.length_map]
    have hcx : xs.length ≤ cap := by rw [List.length_map] at hc; exact hc
    refine lc_list (K := X.K) (a := a) (xs := vs) (fun n H' => ∃ G', Lcs G1 H1 D ((xs.take n).map fE) G' H') ⟨G1, Lcs.start w1.s hD⟩ (fun j H' _ ⟨G', L⟩ => .inl (.inl (L.w.h _ _ h1))) (fun n v H' hv ⟨G', L⟩ => ?_) fun H' ⟨G', L⟩ => ?_
    · obtain ⟨dv, hdv, rv⟩ := r1.get' hv
      rw [List.getElem?_map] at hdv
      cases hq : xs[n]? with
      | none => rw [hq] at hdv; cases hdv
      | some aa =>
        rw [hq] at hdv
        obtain rfl := Option.some.inj hdv
        have hm : aa ∈ xs := List.mem_of_getElem? hq
        have hlt : n < xs.length := (List.getElem?_eq_some_iff.mp hq).1
        obtain ⟨T, ws, rfl, hT, _, rw2⟩ := rv.tup_inv
        cases rw2 with
        | @cons va _ _ _ ra rw3 =>
          cases rw3 with
          | @cons vb _ _ _ rb rw4 =>
            cases rw4
            refine ⟨T, [va, vb], rfl, .inl (.inl (L.w.s _ _ (L.w.g _ _ hT))), rfl, va, [vb], rfl, vb, [], rfl, rfl, ?_⟩
            have ew : ((wipe σ (List.map (fun x => x.snd) [(x, i), (y, j)])).set i (some va)).set j (some vb) = (σ.set i (some va)).set j (some vb) := by
              show ((((σ.set j none).set i none).set i (some va)).set j (some vb)) = _
              rw [List.set_set, List.set_comm (l := σ) (i := j) (j := i) _ _ (Ne.symm hij), List.set_set]
            rw [ew]
            have ew2 : wipe ((σ.set i (some va)).set j (some vb)) (List.map (fun x => x.snd) [(x, i), (y, j)]) = wipe σ (List.map (fun x => x.snd) [(x, i), (y, j)]) := by
              show ((((σ.set i (some va)).set j (some vb)).set j none).set i none) = ((σ.set j none).set i none)
              rw [List.set_set, List.set_comm (l := σ) (i := i) (j := j) _ _ hij, List.set_set]
            refine ⟨ew2, fun s H0 C0 cl fp => ⟨tYes, pts_nil, ?_⟩⟩
            unfold tYes
            dsimp only
            rw [if_pos rfl]
            intro s H0 C0 cl fp
            have E3 := ((E1.grow L.w).putD hx.k hd (k' := .val (f1 aa)) (v := some va) (kat_val (ra.mono L.w.g))).putD (i := j) (k' := .val (f2 aa)) (v := some vb) (by rw [List.getElem?_set_ne hij]; exact hy.k) hd2 (kat_val (rb.mono L.w.g))
            refine hE _ hm s H0 C0 cl fp C.blk _ G' _ Fs E3 _ fun v3 G3 H3 w3 r3 => ?_
            have L3 := L.step hD w3
            obtain ⟨acc, h3, rs⟩ := L3.l
            refine ⟨acc, h3, ?_, G3, ?_⟩
            · rw [rs.len, List.length_map, List.length_take]
              exact cap_lt (by omega)
            · rw [List.take_add_one, hq, List.map_append]
              exact L3.push hD h3 r3
    · rw [lv, List.take_length] at L
      obtain ⟨ws, h2, r2⟩ := L.l
      exact q D ws G' H' (w1.trans L.w) (w1.h.none hD) L.d h2 (by rw [List.length_map]; exact hcx) r2
/-- a, b = e, e a changing expression that hands back a pair of data -/
theorem ws_twoM {u : Nat} (C : Cok X M F N sc kk) (B : Bok X) (E : Env F G H σ Γ Fs) (h : ME X F Γ e o Γ1) (ho : ∀ v, o v = .val (.tuple [d1, d2])) (hx : Sel N Γ1 x i k) (hd1 : k.dry = true) (hl : Loc sc x) (hy : Sel N Γ1 y j k2) (hd2 : k2.dry = true) (hl2 : Loc sc y) (hij : i ≠ j) (hΓ : (Γ1.set i (.val d1)).set j (.val d2) = Γ')
    (q : ∀ σ' G' H' Fs', Env F G' H' σ' Γ' Fs' → wSs X rest D σ' H') (hsw : swapsWithSole [.Tuple [.Name x px, .Name y py] u pt] e pos.line X.env = pure false) (hst : swappedStores [.Tuple [.Name x px, .Name y py] u pt] e X.env = pure none) :
    wSs X (.Assign [.Tuple [.Name x px, .Name y py] u pt] e pos :: rest) D σ H := by
  subst hΓ
  refine ws_cons ⟨_, ps_asg pe_w (pg_tup C.calm (pgs_cons (pg_nm C B hx.n hl) (pgs_cons (pg_nm C B hy.n hl2) pgs_nil))) hsw hst, ?_⟩
  refine h σ G H Fs E _ fun v G1 H1 Fs1 E1 => ?_
  have ln := E1.len
  rw [List.length_append, List.length_append] at ln
  have ln' : σ.length = Γ1.length := by simpa using ln
  have s := E1.sl Γ1.length (.val (.tuple [d1, d2])) (by rw [List.getElem?_append_right (Nat.le_refl _), Nat.sub_self, ho v]; rfl)
  rw [← ln', List.getElem?_append_right (Nat.le_refl _), Nat.sub_self] at s
  obtain ⟨_, w, hw, r1⟩ := s
  obtain rfl : v = w := by simpa using hw
  obtain ⟨a, vs, rfl, h1, hc, r1⟩ := r1.tup_inv
  obtain ⟨Fs2, E2⟩ := E1.drop
  cases r1 with
  | cons ra r2 =>
    cases r2 with
    | cons rb r3 =>
      cases r3
      refine ⟨a, _, rfl, .inl (.inl (E2.gh _ _ h1)), rfl, _, _, rfl, _, [], rfl, rfl, ?_⟩
      have E3 := E2.putD hx.k hd1 (kat_val ra)
      exact q _ G1 H1 Fs2 (E3.putD (by rw [List.getElem?_set_ne hij]; exact hy.k) hd2 (kat_val rb))
theorem cp_pairsB {α : Type} {f1 f2 : α → PyData} {g : α → Bool} {xs : List α} {u : Nat} (C : Cok X M F N sc kk) (hx : Sel N Γ x i k) (hd : k.dry = true) (hy : Sel N Γ y j k2) (hd2 : k2.dry = true) (hij : i ≠ j) (hs : LP X F Γ src (xs.map fun a => .tuple [f1 a, f2 a]))
    (ok : blkC N sc scope [(x, i), (y, j)] = true) (hl : Loc (relS scope sc) x) (hf : (relS scope sc).names.lookup x = some .local ∨ (scope.names.lookup x == some .cell) = true) (hl2 : Loc (relS scope sc) y) (hf2 : (relS scope sc).names.lookup y = some .local ∨ (scope.names.lookup y == some .cell) = true)
    (hE : ∀ z ∈ xs, ∀ s H0 C0 cl fp, Cok (Xblk X scope s H0 C0 cl fp) M F N (relS scope sc) kk → EP (Xblk X scope s H0 C0 cl fp) F ((Γ.set i (.val (f1 z))).set j (.val (f2 z))) elt (.bool (g z))) :
    CP X F Γ elt (.Tuple [.Name x px, .Name y py] u pt) src [] scope ((xs.map g).map .bool) := by
  have h := cp_pairs (px := px) (py := py) (pt := pt) (u := u) (fE := fun y => .bool (g y)) C hx hd hy hd2 hij hs ok hl hf hl2 hf2 hE
  rw [List.map_map]
  exact h
end
end Rn

namespace Rn
open PySem PySem.Spec PyProof.Rows L2
abbrev lstI (xs : List Int) : PyData := .list (xs.map .int)
section
variable {X : Cx} {M : Md} {F : Fr} {N : List Str} {sc scope : Scope} {kk : Nat} {Γ Γt Γ1 Γ' Γ2 : List Kd} {e a b c elt src : Expr} {es ifs : List Expr} {rest body : List Stmt} {st : Stmt} {D : Ends} {σ : L2.St} {G H : Hp} {Fs : Nat → Addr → Prop} {d da db d1 d2 : PyData} {ds das dbs : List PyData} {p pos px py pz pa pc pt pq : Pos} {x y z f m : Str} {i j l n : Nat} {k k2 k3 : Kd} {v : V} {s q A B0 dx Cc : Addr} {fs fs' : List (Str × V)} {cs : List (Addr × Cl)} {cl : Cl} {kvs : List (Int × PyData)} {r : Rs} {ro : Ro} {o : V → Kd}
/-- tuples joined, any -/
theorem do_catT {da db : List PyData} (hl : da.length + db.length ≤ cap) : DOp X (binaryOp .Add) (.tuple da) (.tuple db) (.tuple (da ++ db)) := fun G H x y s rx ry Q q => by
  obtain ⟨p, vs, rfl, h1, hc, r1⟩ := rx.tup_inv
  obtain ⟨p2, vs2, rfl, h2, hc2, r2⟩ := ry.tup_inv
  refine ⟨_, op_catA, p, p2, vs, vs2, rfl, rfl, .inl (.inl (s _ _ h1)), .inl (.inl (s _ _ h2)), by rw [r1.len, r2.len]; exact cap_le hl, fun z => ?_, fun z1 z2 => ?_, fun z1 z2 p hp => ?_⟩
  · subst z
    cases r1
    exact q _ _ _ (.refl s) (.tup h2 hc2 r2)
  · subst z2
    cases r2
    rw [List.append_nil] at q
    exact q _ _ _ (.refl s) (.tup h1 hc r1)
  · exact q _ _ _ (.new s hp) (.tup upd_same (by rw [List.length_append]; exact hl) ((r1.append r2).mono (.new (s.none hp))))
theorem do_catTI {xs ys : List Int} (hl : xs.length + ys.length ≤ cap) : DOp X (binaryOp .Add) (.tuple (xs.map .int)) (.tuple (ys.map .int)) (.tuple ((xs ++ ys).map .int)) := by
  rw [List.map_append]; exact do_catT (by rw [List.length_map, List.length_map]; exact hl)
/-- lists that may still be changed, compared -/
theorem tp_eqL (hu : X.A.units + 64 < cLine) {n m : Nat} (ha : LP X F Γ a das) (hb : LP X F Γ b dbs) (h1 : Nd n (.list das)) (h2 : Nd m (.list dbs)) (hn : n ≤ 64) (hm : m ≤ 64) (hx : behindInMarks .Eq b = false := by first | rfl | exact nomark _) : TP_ X F Γ (.Compare a [.Eq] [b] pos) (eqD (.list das) (.list dbs)) := fun σ G H Fs E Q q => by
  refine ⟨_, pt_cmpR (op_eqD hu) pe_w pe_w hx, ?_⟩
  refine ha σ G H Fs E _ fun p vs G1 H1 w1 hp hc r1 => hb σ G1 H1 Fs (E.grow w1) _ fun p2 vs2 G2 H2 w2 hp2 hc2 r2 => ?_
  refine ⟨_, _, .lst (.inl (.inl (w2.h _ _ hp))) (RpL.dp w2.s (r1.mono w2.g)), .lst (.inl (.inl hp2)) (RpL.dp w2.s r2), nd_shaped h1 hn, nd_shaped h2 hm, ?_⟩
  rw [nd_eq h1 h2]
  exact ⟨_, rfl, q _ _ (w1.trans w2)⟩
theorem tp_neL (hu : X.A.units + 64 < cLine) {n m : Nat} (ha : LP X F Γ a das) (hb : LP X F Γ b dbs) (h1 : Nd n (.list das)) (h2 : Nd m (.list dbs)) (hn : n ≤ 64) (hm : m ≤ 64) (hx : behindInMarks .NotEq b = false := by first | rfl | exact nomark _) : TP_ X F Γ (.Compare a [.NotEq] [b] pos) (!eqD (.list das) (.list dbs)) := fun σ G H Fs E Q q => by
  refine ⟨_, pt_cmpR (op_neD hu) pe_w pe_w hx, ?_⟩
  refine ha σ G H Fs E _ fun p vs G1 H1 w1 hp hc r1 => hb σ G1 H1 Fs (E.grow w1) _ fun p2 vs2 G2 H2 w2 hp2 hc2 r2 => ?_
  refine ⟨_, _, .lst (.inl (.inl (w2.h _ _ hp))) (RpL.dp w2.s (r1.mono w2.g)), .lst (.inl (.inl hp2)) (RpL.dp w2.s r2), nd_shaped h1 hn, nd_shaped h2 hm, ?_⟩
  rw [nd_eq h1 h2]
  exact ⟨_, rfl, q _ _ (w1.trans w2)⟩
theorem ep_eqL (hu : X.A.units + 64 < cLine) {n m : Nat} (ha : LP X F Γ a das) (hb : LP X F Γ b dbs) (h1 : Nd n (.list das)) (h2 : Nd m (.list dbs)) (hn : n ≤ 64) (hm : m ≤ 64) (hx : behindInMarks .Eq b = false := by first | rfl | exact nomark _) : EP X F Γ (.Compare a [.Eq] [b] pos) (.bool (eqD (.list das) (.list dbs))) := fun σ G H Fs E Q q => by
  refine ⟨_, pe_cmpR (op_eqD hu) pe_w pe_w hx, ?_⟩
  refine ha σ G H Fs E _ fun p vs G1 H1 w1 hp hc r1 => hb σ G1 H1 Fs (E.grow w1) _ fun p2 vs2 G2 H2 w2 hp2 hc2 r2 => ?_
  refine ⟨_, _, .lst (.inl (.inl (w2.h _ _ hp))) (RpL.dp w2.s (r1.mono w2.g)), .lst (.inl (.inl hp2)) (RpL.dp w2.s r2), nd_shaped h1 hn, nd_shaped h2 hm, ?_⟩
  rw [nd_eq h1 h2]
  exact q _ _ _ (w1.trans w2) .bl
theorem cp_listL0 {α : Type} {f : α → PyData} {g : α → List Int} {xs : List α} (C : Cok X M F N sc kk) (hx : Sel N Γ x i k) (hd : k.dry = true) (hs : LP X F Γ src (xs.map f)) (ok : blkC N sc scope [(x, i)] = true) (hl : Loc (relS scope sc) x) (hf : (relS scope sc).names.lookup x = some .local ∨ (scope.names.lookup x == some .cell) = true)
    (hE : ∀ y ∈ xs, ∀ s H0 C0 cl fp, Cok (Xblk X scope s H0 C0 cl fp) M F N (relS scope sc) kk → EP (Xblk X scope s H0 C0 cl fp) F (Γ.set i (.val (f y))) elt (.list ((g y).map .int))) :
    CP X F Γ elt (.Name x px) src [] scope ((xs.map g).map lstI) := by
  have h := cp_list0 (px := px) (fE := fun y => lstI (g y)) C hx hd hs ok hl hf hE
  rw [List.map_map]
  exact h
/-- a, b = e1, e2 -/
theorem ws_par {u1 u2 : Nat} {pt2 : Pos} (C : Cok X M F N sc kk) (E : Env F G H σ Γ Fs) (hx : Sel N Γ x i k) (hd : k.dry = true) (hl : sc.names.lookup x = some .local) (hy : Sel N Γ y j k2) (hd2 : k2.dry = true) (hl2 : sc.names.lookup y = some .local) (hij : i ≠ j) (ha : EP X F Γ a d1) (hb : EP X F Γ b d2) (hΓ : (Γ.set i (.val d1)).set j (.val d2) = Γ')
    (q : ∀ σ' G' H', Env F G' H' σ' Γ' Fs → wSs X rest D σ' H') (hw : ∀ env : PySem.Env, env.scope = sc → swappedStores [.Tuple [.Name x px, .Name y py] u1 pt] (.Tuple [a, b] u2 pt2) env = pure (some [x, y]))
    (hs : swapsWithSole [.Tuple [.Name x px, .Name y py] u1 pt] (.Tuple [a, b] u2 pt2) pos.line X.env = pure false) (pl : plainE a = true := by rfl) (pl2 : plainE b = true := by rfl) :
    wSs X (.Assign [.Tuple [.Name x px, .Name y py] u1 pt] (.Tuple [a, b] u2 pt2) pos :: rest) D σ H := by
  subst hΓ
  refine ws_cons ⟨_, ps_par C.calm (by rw [C.hN]; exact C.nd) (by rw [C.hN]; exact hx.n) (by rw [C.hN]; exact hy.n) hij (by rw [C.hs]; exact hl) (by rw [C.hs]; exact hl2) (pa_cons pe_w (pa_cons pe_w pa_nil (star_plain pl2 _ _)) (star_plain pl _ _)) (hw _ C.hs) hs, ?_⟩
  refine ha σ G H Fs E _ fun u G1 H1 w1 r1 => hb σ G1 H1 Fs (E.grow w1) _ fun w G2 H2 w2 r2 => ?_
  have E1 := ((E.grow w1).grow w2).putD (i := i) (k' := .val d1) (v := some u) hx.k hd (kat_val (r1.mono w2.g))
  exact ⟨u, w, rfl, q _ _ _ (E1.putD (i := j) (k' := .val d2) (v := some w) (by rw [List.getElem?_set_ne hij]; exact hy.k) hd2 (kat_val r2))⟩
/-- list(range(n)) -/
theorem np_listRg {n : Int} {pr pcl : Pos} (C : Cok X M F N sc kk) (hm : M.mg "list" = none) (hm2 : M.mg "range" = none) (ha : EP X F Γ a (.int n)) (h0 : 0 ≤ n) (h1 : n ≤ 1000) (hg : sc.names.lookup ("list" : Str) = some .globalImplicit) (hg2 : sc.names.lookup ("range" : Str) = some .globalImplicit) (pl : plainE a = true := by rfl) :
    NP X F Γ (.Call (.Name "list" p) [.Call (.Name "range" pr) [a] [] pcl] [] pos) (((List.range n.toNat).map fun (j : Nat) => (j : Int)).map .int) := fun σ G H Fs E Q q => by
  refine ⟨_, pe_listRg C.calm (gl_of C hg) (C.mgn hm) (prg_1 (gl_of C hg2) (C.mgn hm2) pe_w (star_plain pl _ _)), ?_⟩
  refine ha σ G H Fs E _ fun u G1 H1 w1 r1 => ?_
  obtain rfl := r1.int_inv
  refine ⟨n, rfl, RgOk.of_le (by decide) (by omega) (by decide) h0, fun z hz => ?_⟩
  have e : rgV 0 n = ((List.range n.toNat).map fun (j : Nat) => (j : Int)).map V.int := by
    unfold rgV
    rw [Int.sub_zero, List.map_map]
    refine List.map_congr_left fun j _ => ?_
    rw [Int.zero_add]; rfl
  rw [e]
  exact q z _ G1 _ (w1.trans (.raw w1.s hz)) (w1.h.none hz) (w1.s.none hz) upd_same (by rw [List.length_map, List.length_map, List.length_range]; unfold cap; omega) (.ints _)
/-- y in (a tuple of whole numbers) -/
theorem ep_inT {w : Int} {ns : List Int} (ha : EP X F Γ a (.int w)) (hb : EP X F Γ b (.tuple (ns.map .int))) (hm : behindInMarks .In b = false := by rfl) : EP X F Γ (.Compare a [.In] [b] pos) (.bool (decide (w ∈ ns))) := fun σ G H Fs E Q q => by
  refine ⟨_, pe_cmpR op_in_seq pe_w pe_w hm, ?_⟩
  refine ha σ G H Fs E _ fun x G1 H1 w1 r1 => hb σ G1 H1 Fs (E.grow w1) _ fun y G2 H2 w2 r2 => ?_
  obtain rfl := r1.int_inv
  obtain ⟨p, vs, rfl, h2, hc2, r2⟩ := r2.tup_inv
  obtain rfl := r2.ints_inv
  refine ⟨p, _, rfl, .inr (.inl (.inl (w2.s _ _ h2))), rfl, flat_ints, ?_⟩
  rw [if_neg Bool.false_ne_true, inV_ints]
  exact q _ _ _ (w1.trans w2) .bl
end
end Rn

namespace Rn
open PySem PySem.Spec PyProof.Rows L2
section
variable {X : Cx} {M : Md} {F : Fr} {N : List Str} {sc : Scope} {kk : Nat} {Γ : List Kd} {pos p : Pos} {a b : Expr}
theorem np_slM {α : Type} {f : α → PyData} {xs : List α} {lo hi : Option Expr} {l u : Option Int} {p2 : Pos} (ha : LP X F Γ a (xs.map f)) (hl : OP X F Γ lo l) (hu : OP X F Γ hi u) : NP X F Γ (.Subscript a (.Slice lo hi none p2) pos) ((cutG xs l u).map f) := by
  rw [cutG_map]; exact np_slL ha hl hu
theorem cutG_nat {α : Type} {xs : List α} {i j : Nat} : (cutG xs (some (i : Int)) (some (j : Int))).length ≤ j - i := by
  unfold cutG
  rw [HT.sIx_nat, HT.sIx_nat, List.length_take]
  omega
theorem cutG_m1 {α : Type} {xs : List α} : cutG xs none (some (-1)) = xs.take (xs.length - 1) := by
  unfold cutG
  have e : HT.sIx xs.length xs.length (some (-1)) = xs.length - 1 := by
    show (if (-1 : Int) < 0 then ((-1 : Int) + (xs.length : Int)).toNat else min (-1 : Int).toNat xs.length) = _
    rw [if_pos (by decide)]
    omega
  rw [HT.sIx_none, e, List.drop_zero, Nat.sub_zero]
theorem np_catM {α : Type} {f : α → PyData} {xs ys : List α} (ha : LP X F Γ a (xs.map f)) (hb : LP X F Γ b (ys.map f)) (hl : xs.length + ys.length ≤ cap) : NP X F Γ (.BinOp a .Add b pos) ((xs ++ ys).map f) := by
  rw [List.map_append]; exact np_cat ha hb (by rw [List.length_map, List.length_map]; exact hl)
/-- a, b, c = (a list of three) -/
theorem ep_setThreeL {Γ' : List Kd} {d d1 d2 d3 : PyData} {D : Ends} {σ : L2.St} {G H : Hp} {Fs : Nat → Addr → Prop} {e : Expr} {rest : List Stmt} {x y z : Str} {px py pz : Pos} {i j l : Nat} {k k2 k3 : Kd} (C : Cok X M F N sc kk) (B : Bok X) (E : Env F G H σ Γ Fs) (hx : Sel N Γ x i k) (hd : k.dry = true) (hl : Loc sc x) (hy : Sel N Γ y j k2) (hd2 : k2.dry = true) (hl2 : Loc sc y) (hz : Sel N Γ z l k3) (hd3 : k3.dry = true) (hl3 : Loc sc z) (hij : i ≠ j) (hil : i ≠ l) (hjl : j ≠ l) (h : EP X F Γ e d) (hd' : d = .list [d1, d2, d3]) {u : Nat} {pt : Pos}
    (hΓ : ((Γ.set i (.val d1)).set j (.val d2)).set l (.val d3) = Γ') (q : ∀ σ' G' H', Env F G' H' σ' Γ' Fs → wSs X rest D σ' H') (hst : swappedStores [.Tuple [.Name x px, .Name y py, .Name z pz] u pt] e X.env = pure none) (hsw : swapsWithSole [.Tuple [.Name x px, .Name y py, .Name z pz] u pt] e pos.line X.env = pure false) :
    wSs X (.Assign [.Tuple [.Name x px, .Name y py, .Name z pz] u pt] e pos :: rest) D σ H := by
  subst hΓ hd'
  refine ws_cons ⟨_, ps_asg pe_w (pg_lst C.calm (pgs_cons (pg_nm C B hx.n hl) (pgs_cons (pg_nm C B hy.n hl2) (pgs_cons (pg_nm C B hz.n hl3) pgs_nil)))) hsw hst, ?_⟩
  refine h σ G H Fs E _ fun v G1 H1 w1 r1 => ?_
  obtain ⟨a, vs, rfl, h1, hc, r1⟩ := r1.lst_inv
  cases r1 with
  | cons ra r2 =>
    cases r2 with
    | cons rb r3 =>
      cases r3 with
      | cons rc r4 =>
        cases r4
        refine ⟨a, _, rfl, .inl (.inl (w1.s _ _ h1)), rfl, _, _, rfl, _, _, rfl, _, [], rfl, rfl, ?_⟩
        have E1 := (E.grow w1).putD hx.k hd (kat_val ra)
        have E2 := E1.putD (i := j) (k' := .val d2) (by rw [List.getElem?_set_ne hij]; exact hy.k) hd2 (kat_val rb)
        exact q _ G1 H1 (E2.putD (by rw [List.getElem?_set_ne hjl, List.getElem?_set_ne hil]; exact hz.k) hd3 (kat_val rc))
end
end Rn

namespace Rn
open PySem PySem.Spec PyProof.Rows L2
/-! ## a thing within a thing -/
/-- cells of one's own, and beside them another thing -/
def rsS (cs : List (Addr × Cl)) (w : V) (r : Rs) : Rs where
  at_ := fun G H v P => ∃ P1 P2 : Addr → Prop, (rsH cs).at_ G H v P1 ∧ r.at_ G H w P2 ∧ (∀ a, P a ↔ P1 a ∨ P2 a) ∧ ∀ a, P1 a → ¬ P2 a
  loc := fun ⟨P1, P2, h1, h2, h3, h4⟩ g e => ⟨P1, P2, (rsH cs).loc h1 g fun a ha => e a ((h3 a).mpr (.inl ha)), r.loc h2 g fun a ha => e a ((h3 a).mpr (.inr ha)), h3, h4⟩
section
variable {F : Fr} {G H : Hp} {σ : L2.St} {Γ : List Kd} {Fs : Nat → Addr → Prop} {i : Nat} {v w : V} {cs1 cs2 : List (Addr × Cl)} {r2 r3 : Rs}
theorem keysC_app (a b : List (Addr × Cl)) : keysC (a ++ b) = keysC a ++ keysC b := List.map_append
theorem Env.split (E : Env F G H σ Γ Fs) (hi : Γ[i]? = some (.res v (rsH (cs1 ++ cs2)))) (hcv : ∀ P, (rsH cs2).at_ G H w P → r2.at_ G H w P) : ∃ Fs', Env F G H (σ ++ [some w]) (Γ.set i (.res v (rsH cs1)) ++ [.res w r2]) Fs' := by
  obtain ⟨h1, h2, h3, h4⟩ := E.sl i _ hi
  rw [keysC_app] at h3
  have hn := List.nodup_append.mp h3
  have hfs : ∀ a, a ∈ keysC cs1 ++ keysC cs2 → Fs i a := fun a ha => (h2 a).mpr (by rw [keysC_app]; exact ha)
  have E1 := E.adopt (k' := .res v (rsH cs1)) (P := fun a => a ∈ keysC cs1) hi ⟨h1, fun a => .rfl, hn.1, fun p hp => h4 p (List.mem_append_left _ hp)⟩ fun a ha => .inl (hfs a (List.mem_append_left _ ha))
  have E2 := E1.more (k := .res w r2) (x := some w) (P := fun a => a ∈ keysC cs2) ⟨rfl, hcv _ ⟨fun a => .rfl, hn.2.1, fun p hp => h4 p (List.mem_append_right _ hp)⟩⟩ fun a ha => by
    have f := E.fp i a (hfs a (List.mem_append_right _ ha))
    refine ⟨f.1, f.2.1, f.2.2.1, fun j z => ?_⟩
    by_cases e : j = i
    · simp only [e, if_true] at z
      exact hn.2.2 a z a ha rfl
    · simp only [e, if_false] at z
      exact e (E.dis j i a z (hfs a (List.mem_append_right _ ha)))
  exact ⟨_, E2⟩
theorem Env.merge {u : Option V} {k3 : Kd} (E : Env F G H (σ ++ [some w] ++ [u]) (Γ ++ [.res w r3] ++ [k3]) Fs) (hi : Γ[i]? = some (.res v (rsH cs1))) : ∃ Fs', Env F G H (σ ++ [u]) (Γ.set i (.res v (rsS cs1 w r3)) ++ [k3]) Fs' := by
  have hi' : i < Γ.length := (List.getElem?_eq_some_iff.mp hi).1
  have hl : σ.length = Γ.length := by have := E.len; simp at this; exact this
  have hgi : (Γ ++ [Kd.res w r3] ++ [k3])[i]? = some (.res v (rsH cs1)) := by rw [get_app (by simp; omega), get_app hi']; exact hi
  have hgl : (Γ ++ [Kd.res w r3] ++ [k3])[Γ.length]? = some (.res w r3) := by rw [get_app (by simp)]; simp
  have s1 := E.sl i _ hgi
  have s2 := E.sl Γ.length _ hgl
  have E1 := E.adopt (k' := .un) (P := fun _ => False) hgl (fun a z => z) fun a z => z.elim
  have hset : (Γ ++ [Kd.res w r3] ++ [k3]).set Γ.length .un = Γ ++ [.un] ++ [k3] := by
    rw [List.set_append_left _ _ (by simp), List.set_append_right _ _ (Nat.le_refl _), Nat.sub_self]; rfl
  rw [hset] at E1
  have hgi1 : (Γ ++ [Kd.un] ++ [k3])[i]? = some (.res v (rsH cs1)) := by rw [get_app (by simp; omega), get_app hi']; exact hi
  have hne : ¬ i = Γ.length := by omega
  have E2 := E1.adopt (k' := .res v (rsS cs1 w r3)) (P := fun a => Fs i a ∨ Fs Γ.length a) hgi1 ⟨s1.1, Fs i, Fs Γ.length, s1.2, s2.2, fun a => .rfl, fun a z1 z2 => hne (E.dis i Γ.length a z1 z2)⟩ fun a ha => by
    rcases ha with z | z
    · left; simp only [hne, if_false]; exact z
    · right
      have f := E.fp Γ.length a z
      refine ⟨f.1, f.2.1, f.2.2.1, fun j z2 => ?_⟩
      by_cases e : j = Γ.length
      · simp only [e, if_true] at z2
      · simp only [e, if_false] at z2
        exact e (E.dis j _ a z2 z)
  have hset2 : (Γ ++ [Kd.un] ++ [k3]).set i (.res v (rsS cs1 w r3)) = Γ.set i (.res v (rsS cs1 w r3)) ++ [.un] ++ [k3] := by
    rw [List.set_append_left _ _ (by simp; omega), List.set_append_left _ _ hi']
  rw [hset2] at E2
  obtain ⟨Fs3, E3⟩ := E2.move (i := Γ.length) (by simp)
  have e1 : (σ ++ [some w]).set Γ.length u = σ ++ [u] := by
    rw [List.set_append_right _ _ (by omega), hl, Nat.sub_self]; rfl
  have e2 : (Γ.set i (.res v (rsS cs1 w r3)) ++ [Kd.un]).set Γ.length k3 = Γ.set i (.res v (rsS cs1 w r3)) ++ [k3] := by
    rw [List.set_append_right _ _ (by simp), List.length_set, Nat.sub_self]; rfl
  rw [e1, e2] at E3
  exact ⟨Fs3, E3⟩
end
theorem ag_dat {F : Fr} {G B H : Hp} {Γ : List Kd} {mu : Nat → Bool} : ∀ {vs : List V} {ds : List PyData}, ArL F.K G H vs (ds.map .dat) → Ag F G B H Γ mu vs (ds.map .val) (ds.map fun _ => none)
  | [], [], _ => .nil
  | [], _ :: _, h => by cases h
  | _ :: _, [], h => by cases h
  | v :: vs, d :: ds, .cons h r => .dry rfl ⟨fun _ z => z, v, rfl, h⟩ (ag_dat r)
theorem upK_none : ∀ {Γ : List Kd} {ds : List PyData} {ks : List Kd}, upK Γ (ds.map fun _ => none) ks = Γ
  | Γ, [], ks => by rw [List.map_nil]; unfold upK; rfl
  | Γ, _ :: _, [] => by rw [List.map_cons]; unfold upK; rfl
  | Γ, _ :: ds, _ :: ks => by rw [List.map_cons, upK]; exact upK_none
section
variable {X : Cx} {M : Md} {F : Fr} {N : List Str} {sc : Scope} {kk : Nat} {Γ Γ1 Γ' : List Kd} {e a b c : Expr} {es : List Expr} {rest : List Stmt} {D : Ends} {σ : L2.St} {G H : Hp} {Fs : Nat → Addr → Prop} {d : PyData} {ds : List PyData} {p pos px py pa pc : Pos} {x y f m : Str} {i j n : Nat} {v : V} {s A dx Cc : Addr} {fs : List (Str × V)} {cs cs1 cs2 : List (Addr × Cl)} {r2 r3 : Rs} {ks' : List Kd} {o : V → Kd}
/-- a.m(..), a a thing within one's own -/
theorem me_methV {R : List Kd → List Kd → (V → Kd) → Prop} {RX : List Kd → List Kd → Addr → Prop} {k : Nat} {pl0 : Sem Bool} (C : Cok X M F N sc kk) (h : MeM M k Cc m R RX) (hk : k ≤ kk) (T : Cls M.K Cc) (ho : VP X F Γ a (.ref s)) (hx : Γ[i]? = some (.res v (rsH (cs1 ++ cs2)))) (hin : (s, Cl.ins Cc dx fs) ∈ cs2) (hno : FNo fs m)
    (hcv : ∀ G H P, (rsH cs2).at_ G H (.ref s) P → r2.at_ G H (.ref s) P) (ha : ArP X F Γ (e :: es) (ds.map .dat)) (hr : R (.res (.ref s) r2 :: ds.map .val) (.res (.ref s) r3 :: ks') o) (hp : PinK (.res (.ref s) r2 :: ds.map .val) (.res (.ref s) r3 :: ks')) (hoA : ∀ v, (o v).noA = true) (hΓ : Γ.set i (.res v (rsS cs1 (.ref s) r3)) = Γ')
    (ht : eval (.Call (.Attribute a m pa) (e :: es) [] pos) X.env = (do
      let ov ← eval a X.env
      standAt pa.atName
      let (f, first) ← holding [ov] (getMethod ov m pl0)
      callWith pos f first (backTo pos (starEach (e :: es) X.env)) (backToKw pos (keywordEach [] X.env))))
    (pl : plainE e = true := by rfl) (pls : es.all plainE = true := by rfl) : ME X F Γ (.Call (.Attribute a m pa) (e :: es) [] pos) o Γ' := fun σ G H Fs E Q q => by
  subst hΓ
  obtain ⟨f, fd, ps, h1, h2, h4⟩ := h.at_ C
  refine ⟨_, pe_meth (C := Cc) pe_w (by rw [C.hK]; exact T) h2 h1 (C.room.mono hk) h4 .nil passL pa_w (star_plain pl _ _) (back_plain pls) ht, ?_⟩
  refine ho σ G H Fs E _ fun G0 H0 w0 => ?_
  have E0 := E.grow w0
  have hI : H0 s = some (.ins Cc dx fs) := (E0.sl i _ hx).2.2.2 _ (List.mem_append_right _ hin)
  refine ⟨s, dx, fs, rfl, hI, hno.look, ?_⟩
  refine ha σ G0 H0 Fs E0 _ fun vs G1 H1 w1 r1 => ?_
  rw [List.append_nil]
  obtain ⟨Fs1, E1⟩ := (E0.grow w1).split hx (hcv G1 H1)
  have hlast : (Γ.set i (.res v (rsH cs1)) ++ [Kd.res (.ref s) r2])[Γ.length]? = some (.res (.ref s) r2) := by
    rw [List.getElem?_append_right (by rw [List.length_set]; exact Nat.le_refl _), List.length_set, Nat.sub_self]; rfl
  have r3' : Ag F G1 (offM H1 Fs1 (muO (some Γ.length :: ds.map fun _ => none))) H1 (Γ.set i (.res v (rsH cs1)) ++ [Kd.res (.ref s) r2]) (muO (some Γ.length :: ds.map fun _ => none)) (.ref s :: vs) (.res (.ref s) r2 :: ds.map .val) (some Γ.length :: ds.map fun _ => none) := .mt (by simp [muO]) hlast rfl (ag_dat r1)
  have nd : OsNd (some Γ.length :: ds.map fun _ => none) := fun j j' l z1 z2 => by
    cases j with
    | zero =>
      cases j' with
      | zero => rfl
      | succ j' => simp at z2
    | succ j => simp at z1
  refine ⟨_, _, _, _, E1.callee r3' nd, .inl ⟨_, o, hr, fun u G2 H2 Fs2 E2 => ?_⟩⟩
  obtain ⟨Fs3, E3⟩ := E1.back r3' nd muO_cov E2 hp.len hp.noA (by intro k hk; rw [List.mem_singleton] at hk; rw [hk]; exact hoA u)
  have eΓ : upK (Γ.set i (.res v (rsH cs1)) ++ [Kd.res (.ref s) r2]) (some Γ.length :: ds.map fun _ => none) (.res (.ref s) r3 :: ks') = Γ.set i (.res v (rsH cs1)) ++ [.res (.ref s) r3] := by
    rw [upK, upK_none, List.set_append_right _ _ (by rw [List.length_set]; exact Nat.le_refl _), List.length_set, Nat.sub_self]; rfl
  rw [eΓ] at E3
  obtain ⟨Fs4, E4⟩ := E3.merge (i := i) (List.getElem?_set_self (List.getElem?_eq_some_iff.mp hx).1)
  rw [List.set_set] at E4
  exact q u G2 H2 Fs4 E4
/-- l.append(e), l a list within one's own, e a changing expression -/
theorem ws_appM (C : Cok X M F N sc kk) (E : Env F G H σ Γ Fs) (hx : Kx Γ i (.res v (rsH cs))) {ds0 : List PyData} (hc : CSel cs n A (.lst ds0)) (ho : VP X F Γ a (.ref A)) (h : ME X F Γ e (fun _ => .val d) Γ1)
    (q : ∀ σ0 G' H' Fs', Env F G' H' σ0 Γ1 Fs' → ∃ cs1 n1 ds Fs2, Kx (Γ1.set i (.res v (rsH cs1))) i (.res v (rsH cs1)) ∧ CSel cs1 n1 A (.lst ds) ∧ ds.length < cap ∧ Env F G' H' σ0 (Γ1.set i (.res v (rsH cs1))) Fs2 ∧ ∀ G2 H2 Fs3, Env F G2 H2 σ0 (Γ1.set i (.res v (rsH (cs1.set n1 (A, .lst (ds ++ [d])))))) Fs3 → σ0 = σ → wSs X rest D σ H2)
    (hb : attributeBase a "append" X.env (eval a X.env) = eval a X.env) (pl : plainE e = true := by rfl) (hline : (pa.endLine == pc.line) = true := by rfl) :
    wSs X (.Expr (.Call (.Attribute a "append" pa) [e] [] pc) pos :: rest) D σ H := by
  refine ws_cons ⟨_, ps_expr (pe_bm PySem.F.plainAttrs_list PySem.F.slot_list_append PySem.F.type_list_append mt_append pe_w (pa_cons pe_w pa_nil (star_plain pl _ _)) hb (few_one pl) hline (star_plain pl _ _) rfl), ?_⟩
  refine ho σ G H Fs E _ fun G1 H1 w1 => ?_
  have E1 := E.grow w1
  obtain ⟨vs, h1, h2, h3⟩ := kn_res hx hc σ G1 H1 Fs E1
  refine ⟨.inl ⟨rfl, vs, .inl (.inl h1)⟩, h σ G1 H1 Fs E1 _ fun u G2 H2 Fs2 E2 => ?_⟩
  have hlen : σ.length = Γ1.length := by have := E2.len; simp at this; exact this
  have ru : Rp G2 u d := by
    have s := E2.sl Γ1.length (.val d) (by simp)
    obtain ⟨_, u', z1, z2⟩ := s
    rw [← hlen] at z1
    obtain rfl : u = u' := by simpa using z1
    exact z2
  obtain ⟨Fs3, E3⟩ := E2.drop
  obtain ⟨cs1, n1, ds, Fs4, hx1, hc1, hl1, E4, q⟩ := q σ G2 H2 Fs3 E3
  obtain ⟨ws, h1, h2, h3⟩ := kn_res hx1 hc1 σ G2 H2 Fs4 E4
  refine ⟨A, ws, u, rfl, rfl, h1, by rw [h3.len]; exact cap_lt hl1, ?_⟩
  have E5 := E4.chgH (c' := .lst (ds ++ [d])) (o := .lst (ws ++ [u])) hx1.kd hc1 ⟨_, upd_same, by rw [List.length_append, List.length_singleton]; exact hl1, h3.append (.cons ru .nil)⟩
  rw [List.set_set] at E5
  exact q G2 _ _ E5 rfl
/-- sorted(ints) -/
theorem np_sorted (C : Cok X M F N sc kk) (hm : M.mg "sorted" = none) {ns : List Int} (ha : LP X F Γ a (ns.map .int)) (hnd : ns.Nodup) (hl : ns.length ≤ 1000) (hg : sc.names.lookup ("sorted" : Str) = some .globalImplicit) (pl : plainE a = true := by rfl) :
    NP X F Γ (.Call (.Name "sorted" p) [a] [] pos) ((rise ns).map .int) := fun σ G H Fs E Q q => by
  refine ⟨_, pe_callB cr_sortedI (gl_of C hg) (C.mgn hm) (by decide +kernel) (pa_cons pe_w pa_nil (star_plain pl _ _)) (he := star_plain pl _ _), ?_⟩
  refine ha σ G H Fs E _ fun a vs G1 H1 w1 h1 hc r1 => ?_
  obtain rfl := r1.ints_inv
  refine ⟨a, ns, rfl, Same.seq (.refl _) (.inl (.inl h1)), fun ms z hp hs hz => ?_⟩
  have hms : ms.Pairwise (· < ·) := by
    have hnd2 : ms.Nodup := hp.nodup_iff.mpr hnd
    exact (List.pairwise_and_iff.mpr ⟨hs, hnd2⟩).imp fun ⟨h1, h2⟩ => by omega
  have e : ms = rise ns := up_ext hms (up_rise ns) fun k => by rw [hp.mem_iff, mem_rise]
  subst e
  exact q z _ G1 _ (w1.trans (.raw w1.s hz)) (w1.h.none hz) (w1.s.none hz) upd_same (by rw [List.length_map, hp.length_eq]; unfold cap; omega) (.ints _)
/-- a, b, c = (a tuple of three) -/
theorem ep_setThree {Γ' : List Kd} {d d1 d2 d3 : PyData} {z : Str} {pz : Pos} {l : Nat} {k k2 k3 : Kd} (C : Cok X M F N sc kk) (B : Bok X) (E : Env F G H σ Γ Fs) (hx : Sel N Γ x i k) (hd : k.dry = true) (hl : Loc sc x) (hy : Sel N Γ y j k2) (hd2 : k2.dry = true) (hl2 : Loc sc y) (hz : Sel N Γ z l k3) (hd3 : k3.dry = true) (hl3 : Loc sc z) (hij : i ≠ j) (hil : i ≠ l) (hjl : j ≠ l) (h : EP X F Γ e d) (hd' : d = .tuple [d1, d2, d3]) {u : Nat} {pt : Pos}
    (hΓ : ((Γ.set i (.val d1)).set j (.val d2)).set l (.val d3) = Γ') (q : ∀ σ' G' H', Env F G' H' σ' Γ' Fs → wSs X rest D σ' H') (hst : swappedStores [.Tuple [.Name x px, .Name y py, .Name z pz] u pt] e X.env = pure none) (hsw : swapsWithSole [.Tuple [.Name x px, .Name y py, .Name z pz] u pt] e pos.line X.env = pure false) :
    wSs X (.Assign [.Tuple [.Name x px, .Name y py, .Name z pz] u pt] e pos :: rest) D σ H := by
  subst hΓ hd'
  refine ws_cons ⟨_, ps_asg pe_w (pg_tup C.calm (pgs_cons (pg_nm C B hx.n hl) (pgs_cons (pg_nm C B hy.n hl2) (pgs_cons (pg_nm C B hz.n hl3) pgs_nil)))) hsw hst, ?_⟩
  refine h σ G H Fs E _ fun v G1 H1 w1 r1 => ?_
  obtain ⟨a, vs, rfl, h1, hc, r1⟩ := r1.tup_inv
  cases r1 with
  | cons ra r2 =>
    cases r2 with
    | cons rb r3 =>
      cases r3 with
      | cons rc r4 =>
        cases r4
        refine ⟨a, _, rfl, .inl (.inl (w1.s _ _ h1)), rfl, _, _, rfl, _, _, rfl, _, [], rfl, rfl, ?_⟩
        have E1 := (E.grow w1).putD hx.k hd (kat_val ra)
        have E2 := E1.putD (i := j) (k' := .val d2) (by rw [List.getElem?_set_ne hij]; exact hy.k) hd2 (kat_val rb)
        exact q _ G1 H1 (E2.putD (by rw [List.getElem?_set_ne hjl, List.getElem?_set_ne hil]; exact hz.k) hd3 (kat_val rc))
end
end Rn

namespace Rn
open PySem PySem.Spec PyProof.Rows L2
/-! ## lists that lose an item; pairs taken apart in a loop -/
theorem RpL.erase {G : Hp} : ∀ {vs : List V} {ds : List PyData} (n : Nat), RpL G vs ds → RpL G (vs.eraseIdx n) (ds.eraseIdx n)
  | _, _, _, .nil => .nil
  | _, _, 0, .cons _ r => r
  | _, _, n + 1, .cons q r => .cons q (r.erase n)
section
variable {X : Cx} {M : Md} {F : Fr} {N : List Str} {sc : Scope} {kk : Nat} {Γ Γ1 Γ' : List Kd} {e a b c src : Expr} {es : List Expr} {rest body : List Stmt} {D : Ends} {σ : L2.St} {G H : Hp} {Fs : Nat → Addr → Prop} {d d1 d2 : PyData} {ds : List PyData} {p pos px py pa pc pt : Pos} {x y f m : Str} {i j n : Nat} {v : V} {k k2 : Kd}
/-- x.pop(e), x one's own list -/
theorem me_popAt {w : Int} (C : Cok X M F N sc kk) (hx : Sel N Γ x i (.own v ds)) (hv : Vis sc x) (h : EP X F Γ e (.int w)) (h0 : 0 ≤ w) (hw : ds[w.toNat]? = some d) (hΓ : Γ.set i (.own v (ds.eraseIdx w.toNat)) = Γ') (hd : (x == ("__debug__" : Str)) = false) (hcd : (x == ("__classdict__" : Str)) = false)
    (pl : plainE e = true) (hb : attributeBase (.Name x px) "pop" X.env (eval (.Name x px) X.env) = eval (.Name x px) X.env) (hline : (pa.endLine == pc.line) = true) :
    ME X F Γ (.Call (.Attribute (.Name x px) "pop" pa) [e] [] pc) (fun _ => .val d) Γ' := fun σ G H Fs E Q q => by
  subst hΓ
  refine ⟨_, pe_bm PySem.F.plainAttrs_list PySem.F.slot_list_pop PySem.F.type_list_pop mt_popAt pe_w (pa_cons pe_w pa_nil (star_plain pl _ _)) hb (few_one pl) hline (star_plain pl _ _) rfl, ?_⟩
  obtain ⟨h1, a, vs, rfl, hP, h3, h4, h5⟩ := E.sl i _ hx.k
  refine w_name C hx hv h1 ?_ hd hcd
  refine ⟨.inl ⟨rfl, vs, .inl (.inl h3)⟩, h σ G H Fs E _ fun u G1 H1 w1 r1 => ?_⟩
  obtain rfl := r1.int_inv
  have E1 := E.grow w1
  have r5 := h5.mono w1.g
  obtain ⟨u, hu, ru⟩ := r5.get hw
  have hlt : w.toNat < vs.length := (List.getElem?_eq_some_iff.mp hu).1
  have hcl : vs.length ≤ cap := by rw [h5.len]; exact h4
  have hcl2 : vs.length < 2 ^ 63 := Nat.lt_of_le_of_lt hcl (by unfold cap; decide)
  refine ⟨a, vs, w, w.toNat, u, rfl, rfl, w1.h _ _ h3, by omega, by omega, ?_, hu, ?_⟩
  · unfold seqIndex?
    dsimp only
    rw [if_neg (show ¬ w < 0 by omega), if_pos (by rw [Bool.and_eq_true, decide_eq_true_eq, decide_eq_true_eq]; omega)]
  · have E2 := E1.chg (H' := upd H1 a (.lst (vs.eraseIdx w.toNat))) (k' := .own (.ref a) (ds.eraseIdx w.toNat)) (P := fun b => b = a) hx.k ⟨h1, a, _, rfl, fun _ => .rfl, upd_same, Nat.le_trans (List.length_eraseIdx_le _ _) h4, r5.erase _⟩ (fun b hb o ho => by rw [upd_ne fun z => hb ((hP b).mpr z)]; exact ho) fun b hb => by
      subst hb; exact ⟨(by rw [upd_same]; exact fun z => nomatch z), .inl ((hP _).mpr rfl)⟩
    exact q u G1 _ _ (E2.more (P := fun _ => False) (kat_val ru) fun _ z => z.elim)
/-- x.append(e), e a changing expression that hands back a datum -/
theorem ws_appE {pa pc : Pos} {v : V} {ds0 : List PyData} (C : Cok X M F N sc kk) (E : Env F G H σ Γ Fs) (hx0 : Sel N Γ x i (.own v ds0)) (hv : Vis sc x) (h : ME X F Γ e (fun _ => .val d) Γ1) (hx : Sel N Γ1 x i (.own v ds)) (hlen : ds.length < cap) (hΓ : Γ1.set i (.own v (ds ++ [d])) = Γ') (q : ∀ G' H' Fs', Env F G' H' σ Γ' Fs' → wSs X rest D σ H')
    (pl : plainE e = true) (hb : attributeBase (.Name x px) "append" X.env (eval (.Name x px) X.env) = eval (.Name x px) X.env) (hline : (pa.endLine == pc.line) = true) (hd : (x == ("__debug__" : Str)) = false) (hcd : (x == ("__classdict__" : Str)) = false) :
    wSs X (.Expr (.Call (.Attribute (.Name x px) "append" pa) [e] [] pc) pos :: rest) D σ H := by
  subst hΓ
  refine ws_cons ⟨_, ps_expr (pe_bm PySem.F.plainAttrs_list PySem.F.slot_list_append PySem.F.type_list_append mt_append pe_w (pa_cons pe_w pa_nil (star_plain pl _ _)) hb (few_one pl) hline (star_plain pl _ _) rfl), ?_⟩
  obtain ⟨h1, a, vs0, rfl, _, h30, _, _⟩ := E.sl i _ hx0.k
  refine w_name C hx0 hv h1 ?_ hd hcd
  refine ⟨.inl ⟨rfl, vs0, .inl (.inl h30)⟩, h σ G H Fs E _ fun u G1 H1 Fs1 E1 => ?_⟩
  have ln := E1.len
  rw [List.length_append, List.length_append] at ln
  have ln' : σ.length = Γ1.length := by simpa using ln
  have ru : Rp G1 u d := by
    have s := E1.sl Γ1.length (.val d) (by simp)
    obtain ⟨_, u', z1, z2⟩ := s
    rw [← ln'] at z1
    obtain rfl : u = u' := by simpa using z1
    exact z2
  obtain ⟨Fs2, E2⟩ := E1.drop
  obtain ⟨g1, a', vs, e', hP, g3, g4, g5⟩ := E2.sl i _ hx.k
  cases e'
  refine ⟨a, vs, u, rfl, rfl, g3, by rw [g5.len]; exact cap_lt hlen, q G1 _ _ (E2.chg hx.k (P := fun b => b = a) ⟨by rw [g1], a, vs ++ [u], rfl, fun _ => .rfl, upd_same, ?_, g5.append (.cons ru .nil)⟩ (fun b hb o ho => ?_) fun b hb => ?_)⟩
  · rw [List.length_append, List.length_singleton]; exact hlen
  · rw [upd_ne fun z => hb ((hP b).mpr z)]; exact ho
  · subst hb; exact ⟨(by rw [upd_same]; exact fun z => nomatch z), .inl ((hP _).mpr rfl)⟩
/-- for x, y in (a list of pairs that is read) -/
theorem ws_forP {α : Type} {f1 f2 : α → PyData} {xs : List α} {u : Str} {pu : Pos} {iu u1 : Nat} (Rt : Fr → VK) (J : Nat → List Kd → Prop) (C : Cok X M F N sc kk) (B : Bok X) (E : Env F G H σ Γ Fs) (hx : N[i]? = some x) (hl : Loc sc x) (hy : N[j]? = some y) (hl2 : Loc sc y) (hij : i ≠ j) (hs : Sel N Γ u iu (.arg (.lst (xs.map fun a => .tuple [f1 a, f2 a])))) (hu : Vis sc u) (hR : RtMono Rt) (hD : D.rt = Rt F)
    (hJ : ∀ n Γ', J n Γ' → ∃ k k2, Γ'[i]? = some k ∧ Γ'[j]? = some k2 ∧ k.dry = true ∧ k2.dry = true) (h0 : J 0 Γ)
    (hb : ∀ G1, Cok X M (F.pin G1) N sc kk → ∀ n a Γ', xs[n]? = some a → J n Γ' → ∀ σ G H Fs, Env (F.pin G1) G H σ ((Γ'.set i (.val (f1 a))).set j (.val (f2 a))) Fs → wSs X body (loopE (F.pin G1) Rt (J (n + 1)) fun _ => False) σ H)
    (he : ∀ Γ', J xs.length Γ' → ∀ σ G H Fs, Env F G H σ Γ' Fs → wSs X rest D σ H) (hd : (u == ("__debug__" : Str)) = false) (hcd : (u == ("__classdict__" : Str)) = false) : wSs X (.For (.Tuple [.Name x px, .Name y py] u1 pt) (.Name u pu) body [] pos :: rest) D σ H := by
  refine ws_cons ⟨_, ps_for (passB B) C.calm (pi_list pe_w) (pg_tup C.calm (pgs_cons (pg_nm C B hx hl) (pgs_cons (pg_nm C B hy hl2) pgs_nil))) pss_w (fold_no rfl X.env), ?_⟩
  obtain ⟨_, v, h1, a, vs, rfl, h3, hc, r1⟩ := E.sl iu _ hs.k
  refine w_name C hs hu h1 ?_ hd hcd
  refine ⟨a, rfl, ⟨vs, .inl (.inl (E.bh _ _ h3))⟩, ?_⟩
  have el : vs.length = xs.length := by rw [r1.len, List.length_map]
  refine for_list (xs := vs) (fun j σ H' => ∃ G' Γ Fs, Env (F.pin G) G' H' σ Γ Fs ∧ J j Γ) ⟨G, Γ, Fs, E.pin E (.refl G), h0⟩ (fun j σ' H' _ ⟨G', Γ', Fs', E', _⟩ => .inl (.inl (E'.bh _ _ h3))) (fun n v σ' H' hv ⟨G', Γ', Fs', E', hj⟩ => ?_) fun σ' H' ⟨G', Γ', Fs', E', hj⟩ => ?_
  · obtain ⟨dv, hdv, rv⟩ := r1.get' hv
    rw [List.getElem?_map] at hdv
    cases hq : xs[n]? with
    | none => rw [hq] at hdv; cases hdv
    | some aa =>
      rw [hq] at hdv
      obtain rfl := Option.some.inj hdv
      obtain ⟨t2, ws, rfl, ht2, _, rw2⟩ := rv.tup_inv
      cases rw2 with
      | @cons va _ _ _ ra rw3 =>
        cases rw3 with
        | @cons vb _ _ _ rb rw4 =>
          cases rw4
          obtain ⟨k, k2, hk, hk2, d1, d2⟩ := hJ n Γ' hj
          refine ⟨t2, _, rfl, .inl (.inl (E'.gh _ _ (E'.g0 _ _ ht2))), rfl, _, _, rfl, _, _, rfl, rfl, ?_⟩
          have E4 := E'.putD (i := i) (k' := .val (f1 aa)) (v := some va) hk d1 (kat_val (ra.mono E'.g0))
          have E5 := E4.putD (i := j) (k' := .val (f2 aa)) (v := some vb) (by rw [List.getElem?_set_ne hij]; exact hk2) d2 (kat_val (rb.mono E'.g0))
          refine wSs_mono (hb G C.pin n aa Γ' hq hj _ G' H' Fs' E5) (fun _ _ z => z) (fun v H z => ?_) (fun _ _ ⟨_, _, _, _, z⟩ => z.elim) (fun _ _ z => z)
          show D.rt v H
          rw [hD]
          exact hR F G E.g0 E.go v H z
  · rw [el] at hj
    exact he Γ' hj σ' G' H' Fs' (E.unpin E')
end
end Rn

namespace Rn
open PySem PySem.Spec PyProof.Rows L2
/-! ## answers that are the asker's own: a new tuple of a datum and a new list -/
def twR (d : PyData) (ds : List PyData) : Rs where
  at_ := fun G H T P => ∃ t v a vs, T = .ref t ∧ H t = some (.tup [v, .ref a]) ∧ Rp G v d ∧ H a = some (.lst vs) ∧ ds.length ≤ cap ∧ RpL G vs ds ∧ t ≠ a ∧ ∀ b, P b ↔ b = t ∨ b = a
  loc := fun ⟨t, v, a, vs, h1, h2, h3, h4, h5, h6, h7, h8⟩ g e => ⟨t, v, a, vs, h1, (e t ((h8 t).mpr (.inl rfl))).trans h2, h3.mono g, (e a ((h8 a).mpr (.inr rfl))).trans h4, h5, h6.mono g, h7, h8⟩
section
variable {X : Cx} {M : Md} {F : Fr} {N : List Str} {sc : Scope} {kk : Nat} {Γ Γ1 Γ' : List Kd} {e a b c src : Expr} {es : List Expr} {rest body : List Stmt} {D : Ends} {σ : L2.St} {G H : Hp} {Fs : Nat → Addr → Prop} {d d1 d2 : PyData} {ds das : List PyData} {p pos px py pa pc pt p1 : Pos} {x y f m : Str} {i j n : Nat} {v : V} {k k2 : Kd} {Cc : Addr} {ro : Ro} {o : V → Kd} {ks' : List Kd}
theorem me_tupF {u : Nat} (ha : EP X F Γ a d) (hb : NP X F Γ b ds) (pl : plainE a = true := by rfl) (pl2 : plainE b = true := by rfl) : ME X F Γ (.Tuple [a, b] u pos) (fun T => .res T (twR d ds)) Γ := fun σ G H Fs E Q q => by
  refine ⟨_, pe_tup (pa_cons pe_w (pa_cons pe_w pa_nil (star_plain pl2 _ _)) (star_plain pl _ _)), ?_⟩
  refine ha σ G H Fs E _ fun u1 G1 H1 w1 r1 => ?_
  refine hb σ G1 H1 Fs (E.grow w1) _ fun l vs G2 H2 w2 hn hg hp hc r2 => ⟨by simp [sizeLine_eq], fun t ht => ?_⟩
  have E2 := (E.grow w1).grow w2
  have hne : t ≠ l := fun z => by rw [z, hp] at ht; cases ht
  have E3 := E2.grow (.raw E2.gh (o := .tup [u1, .ref l]) ht)
  refine q (.ref t) G2 _ _ (E3.more (k := .res (.ref t) (twR d ds)) (x := some (.ref t)) (P := fun b => b = t ∨ b = l) ⟨rfl, t, u1, l, vs, rfl, upd_same, r1.mono w2.g, by rw [upd_ne hne.symm]; exact hp, hc, r2, hne, fun _ => .rfl⟩ fun b hb => ?_)
  rcases hb with e | e
  · rw [e]
    exact ⟨E2.bh.none ht, E2.gh.none ht, (by rw [upd_same]; exact fun z => nomatch z), fun j z => (E2.fp j _ z).2.2.1 ht⟩
  · rw [e]
    exact ⟨(E.grow w1).bh.none hn, hg, (by rw [upd_ne hne.symm, hp]; exact fun z => nomatch z), fun j z => ((E.grow w1).fp j _ z).2.2.1 hn⟩
/-- e[1].append(x), e such an answer -/
theorem ws_appF {w2 : Int} {u u2 : Nat} {pq p3 : Pos} (E : Env F G H σ Γ Fs) (h : ME X F Γ e (fun T => .res T (twR d ds)) Γ1) (hlen : ds.length < cap) (q : ∀ G' H' Fs', Env F G' H' σ Γ1 Fs' → wSs X rest D σ H')
    (hb : attributeBase (.Subscript e (.Constant (.int 1) u p1) pq) "append" X.env (eval (.Subscript e (.Constant (.int 1) u p1) pq) X.env) = eval (.Subscript e (.Constant (.int 1) u p1) pq) X.env) (hline : (pa.endLine == pc.line) = true) :
    wSs X (.Expr (.Call (.Attribute (.Subscript e (.Constant (.int 1) u p1) pq) "append" pa) [.Constant (.int w2) u2 p3] [] pc) pos :: rest) D σ H := by
  refine ws_cons ⟨_, ps_expr (pe_bm PySem.F.plainAttrs_list PySem.F.slot_list_append PySem.F.type_list_append mt_append (pe_ix ix_w pe_w pe_w (fun _ _ => rfl)) (pa_cons pe_w pa_nil (star_plain rfl _ _)) hb (few_one rfl) hline (star_plain rfl _ _) rfl), ?_⟩
  refine h σ G H Fs E _ fun T G1 H1 Fs1 E1 => ?_
  have ln := E1.len
  rw [List.length_append, List.length_append] at ln
  have ln' : σ.length = Γ1.length := by simpa using ln
  have hlast : (Γ1 ++ [Kd.res T (twR d ds)])[Γ1.length]? = some (.res T (twR d ds)) := by simp
  obtain ⟨hT, t, v, a, vs, rfl, h2, h3, h4, h5, h6, h7, h8⟩ := E1.sl Γ1.length _ hlast
  refine ⟨_, pe_int, ?_⟩
  refine ⟨_, ix_tup, t, [v, .ref a], 1, .ref a, rfl, rfl, .inl (.inl h2), rfl, ?_⟩
  refine ⟨.inl ⟨rfl, vs, .inl (.inl h4)⟩, ⟨_, pe_int, ?_⟩⟩
  have E2 := E1.chg (H' := upd H1 a (.lst (vs ++ [.int w2]))) (k' := .res (.ref t) (twR d (ds ++ [.int w2]))) (P := Fs1 Γ1.length) hlast ⟨hT, t, v, a, vs ++ [.int w2], rfl, (upd_ne h7).trans h2, h3, upd_same, by rw [List.length_append, List.length_singleton]; exact hlen, h6.append (.cons .int .nil), h7, h8⟩ (fun b hb o ho => by rw [upd_ne fun z => hb ((h8 b).mpr (.inr z))]; exact ho) (fun b hb => ⟨?_, .inl hb⟩)
  · rw [List.set_append_right _ _ (Nat.le_refl _), Nat.sub_self] at E2
    obtain ⟨Fs3, E3⟩ := E2.drop
    exact ⟨a, vs, .int w2, rfl, rfl, h4, by rw [h6.len]; exact cap_lt hlen, q G1 _ Fs3 E3⟩
  · by_cases z : b = a
    · rw [z, upd_same]; exact fun z => nomatch z
    · rw [upd_ne z]; exact (E1.fp _ b hb).2.2.1
/-- a.m(..), a a thing that is only read, the answer the asker's own -/
theorem me_methO {R : List Kd → List Kd → (V → Kd) → Prop} {RX : List Kd → List Kd → Addr → Prop} {k : Nat} {pl0 : Sem Bool} {ds0 : List PyData} (C : Cok X M F N sc kk) (h : MeM M k Cc m R RX) (hk : k ≤ kk) (T : Cls M.K Cc) (ho : OV X F Γ a ro) (hI : InsO ro Cc m) (ha : ArP X F Γ (e :: es) (ds0.map .dat)) (hr : R (.arg (.obj ro) :: ds0.map .val) ks' o) (hp : PinK (.arg (.obj ro) :: ds0.map .val) ks') (hoA : ∀ v, (o v).noA = true)
    (ht : eval (.Call (.Attribute a m pa) (e :: es) [] pos) X.env = (do
      let ov ← eval a X.env
      standAt pa.atName
      let (f, first) ← holding [ov] (getMethod ov m pl0)
      callWith pos f first (backTo pos (starEach (e :: es) X.env)) (backToKw pos (keywordEach [] X.env))))
    (pl : plainE e = true := by rfl) (pls : es.all plainE = true := by rfl) : ME X F Γ (.Call (.Attribute a m pa) (e :: es) [] pos) o Γ := fun σ G H Fs E Q q => by
  obtain ⟨f, fd, ps, h1, h2, h4⟩ := h.at_ C
  refine ⟨_, pe_meth (C := Cc) pe_w (by rw [C.hK]; exact T) h2 h1 (C.room.mono hk) h4 .nil passL pa_w (star_plain pl _ _) (back_plain pls) ht, ?_⟩
  refine ho σ G H Fs E _ fun u G1 H1 w1 r1 => ?_
  obtain ⟨A, dx, fs, rfl, hA, hno⟩ := hI _ _ _ r1
  refine ⟨A, dx, fs, rfl, hA, hno, ?_⟩
  refine ha σ G1 H1 Fs (E.grow w1) _ fun vs G2 H2 w2 r2 => ?_
  rw [List.append_nil]
  have E2 := (E.grow w1).grow w2
  have hmu : ∀ i, muO (none :: ds0.map fun _ => none) i = false := fun i => by
    cases z : muO (none :: ds0.map fun _ => none) i with
    | false => rfl
    | true =>
      exfalso
      have : some i ∈ ((none : Option Nat) :: ds0.map fun _ => none) := by simpa [muO] using z
      rcases List.mem_cons.mp this with y | y
      · cases y
      · obtain ⟨_, _, y⟩ := List.mem_map.mp y; cases y
  have hoff : offM H2 Fs (muO (none :: ds0.map fun _ => none)) = H2 := funext fun a => off_of fun i hi => by rw [hmu i] at hi; cases hi
  have ag : Ag F G2 (offM H2 Fs (muO (none :: ds0.map fun _ => none))) H2 Γ (muO (none :: ds0.map fun _ => none)) (.ref A :: vs) (.arg (.obj ro) :: ds0.map .val) (none :: ds0.map fun _ => none) := .dry rfl ⟨fun _ z => z, _, rfl, by rw [hoff]; exact ro.mono r1 w2.g w2.h⟩ (ag_dat r2)
  have nd : OsNd (none :: ds0.map fun _ => none) := fun j j' l z1 z2 => by
    cases j with
    | zero => simp at z1
    | succ j => simp at z1
  refine ⟨_, _, _, _, E2.callee ag nd, .inl ⟨_, o, hr, fun v G3 H3 Fs3 E3 => ?_⟩⟩
  obtain ⟨Fs4, E4⟩ := E2.back ag nd muO_cov E3 hp.len hp.noA (by intro k hk; rw [List.mem_singleton] at hk; rw [hk]; exact hoA v)
  have eΓ : upK Γ (none :: ds0.map fun _ => none) ks' = Γ := by
    cases ks' with
    | nil => unfold upK; rfl
    | cons k0 ks0 => rw [upK, upK_none]
  rw [eΓ] at E4
  exact q v G3 H3 Fs4 E4
end
end Rn

namespace Rn
open PySem PySem.Spec PyProof.Rows L2
/-! ## texts in a list -/
theorem inV_strs {x : Str} : ∀ {ss : List Str}, inV (.str x) (ss.map V.str) = decide (x ∈ ss)
  | [] => rfl
  | n :: r => by
    have ih := inV_strs (x := x) (ss := r)
    unfold inV at ih ⊢
    rw [List.map_cons, List.any_cons, ih]
    have e1 : eqV (.str n) (.str x) = decide (n = x) := by
      by_cases z : n = x <;> simp [eqV, z]
    rw [e1]
    by_cases h : n = x
    · subst h; simp
    · have : x ≠ n := fun z => h z.symm
      simp [h, this]
theorem flat_strs : ∀ {ss : List Str}, (ss.map V.str).all flatV = true
  | [] => rfl
  | n :: r => by rw [List.map_cons, List.all_cons, flat_strs]; rfl
theorem RpL.strs_inv {G : Hp} : ∀ {vs : List V} {ss : List Str}, RpL G vs (ss.map PyData.str) → vs = ss.map V.str
  | _, [], .nil => rfl
  | _, n :: r, h => by
    cases h with
    | cons a b => cases a; rw [RpL.strs_inv b]; rfl
section
variable {X : Cx} {M : Md} {F : Fr} {N : List Str} {sc : Scope} {kk : Nat} {Γ : List Kd} {a b : Expr} {pos : Pos}
theorem tp_inS {s : Str} {ss : List Str} (ha : EP X F Γ a (.str s)) (hb : LP X F Γ b (ss.map .str)) (hm : behindInMarks .In b = false) : TP_ X F Γ (.Compare a [.In] [b] pos) (decide (s ∈ ss)) := fun σ G H Fs E Q q => by
  refine ⟨_, pt_cmpR op_in_seq pe_w pe_w hm, ?_⟩
  refine ha σ G H Fs E _ fun x G1 H1 w1 r1 => hb σ G1 H1 Fs (E.grow w1) _ fun p vs G2 H2 w2 h2 hc2 r2 => ?_
  obtain rfl := r1.str_inv
  obtain rfl := r2.strs_inv
  refine ⟨p, _, rfl, .inl (.inl (.inl h2)), rfl, flat_strs, ?_⟩
  rw [if_neg Bool.false_ne_true, inV_strs]
  exact ⟨_, rfl, q _ _ (w1.trans w2)⟩
theorem NP.eq {e : Expr} {ds ds' : List PyData} (h : NP X F Γ e ds) (e' : ds = ds') : NP X F Γ e ds' := e' ▸ h
/-- isinstance(a, list), a some list -/
theorem ep_isL {p p2 : Pos} {ds : List PyData} (C : Cok X M F N sc kk) (hm : M.mg "isinstance" = none) (hmT : M.mg "list" = none) (ha : LP X F Γ a ds) (hg : sc.names.lookup ("isinstance" : Str) = some .globalImplicit) (hg2 : sc.names.lookup ("list" : Str) = some .globalImplicit) (pl : plainE a = true) : EP X F Γ (.Call (.Name "isinstance" p) [a, .Name "list" p2] [] pos) (.bool true) := fun σ G H Fs E Q q => by
  refine ⟨_, pe_callB call_isi (gl_of C hg) (C.mgn hm) (by decide +kernel) (pa_cons pe_w (pa_cons (pe_bltn (v := .ty "list") (gl_of C hg2) (C.mgn hmT) bt_list rfl (by decide) (by decide)) pa_nil) (star_plain pl _ _)) (he := star_plain pl _ _), ?_⟩
  refine ha σ G H Fs E _ fun p vs G1 H1 w1 h1 hc r1 => ?_
  exact ⟨.ref p, .ty "list", .type "list", .type "list", true, rfl, .ty "list", .base (.lst h1), kit_ty (by decide +kernel), q _ _ _ w1 .bl⟩
/-- a.m(), a a thing that is only read, the answer the asker's own -/
theorem me_methO0 {pa : Pos} {m : Str} {Cc : Addr} {ro : Ro} {o : V → Kd} {ks' : List Kd} {R : List Kd → List Kd → (V → Kd) → Prop} {RX : List Kd → List Kd → Addr → Prop} {k : Nat} {pl0 : Sem Bool} (C : Cok X M F N sc kk) (h : MeM M k Cc m R RX) (hk : k ≤ kk) (T : Cls M.K Cc) (ho : OV X F Γ a ro) (hI : InsO ro Cc m) (hr : R [.arg (.obj ro)] ks' o) (hp : PinK [.arg (.obj ro)] ks') (hoA : ∀ v, (o v).noA = true)
    (ht : eval (.Call (.Attribute a m pa) [] [] pos) X.env = (do
      let ov ← eval a X.env
      standAt pa.atName
      let (f, first) ← holding [ov] (getMethod ov m pl0)
      callWith pos f first (backTo pos (starEach [] X.env)) (backToKw pos (keywordEach [] X.env)))) : ME X F Γ (.Call (.Attribute a m pa) [] [] pos) o Γ := fun σ G H Fs E Q q => by
  obtain ⟨f, fd, ps, h1, h2, h4⟩ := h.at_ C
  refine ⟨_, pe_meth0 (C := Cc) pe_w (by rw [C.hK]; exact T) h2 h1 (C.room.mono hk) h4 .nil passL ht, ?_⟩
  refine ho σ G H Fs E _ fun u G1 H1 w1 r1 => ?_
  obtain ⟨A, dx, fs, rfl, hA, hno⟩ := hI _ _ _ r1
  refine ⟨A, dx, fs, rfl, hA, hno, ?_⟩
  have E2 := E.grow w1
  have hoff : offM H1 Fs (muO [none]) = H1 := funext fun a => off_of fun i hi => by simp [muO] at hi
  have ag : Ag F G1 (offM H1 Fs (muO [none])) H1 Γ (muO [none]) [.ref A] [.arg (.obj ro)] [none] := .dry rfl ⟨fun _ z => z, _, rfl, by rw [hoff]; exact r1⟩ .nil
  refine ⟨_, _, _, _, E2.callee ag (osnd_of rfl), .inl ⟨_, o, hr, fun v G3 H3 Fs3 E3 => ?_⟩⟩
  obtain ⟨Fs4, E4⟩ := E2.back ag (osnd_of rfl) muO_cov E3 hp.len hp.noA (by intro k hk; rw [List.mem_singleton] at hk; rw [hk]; exact hoA v)
  have eΓ : upK Γ [none] ks' = Γ := by
    cases ks' with
    | nil => unfold upK; rfl
    | cons k0 ks0 => rw [upK]; unfold upK; rfl
  rw [eΓ] at E4
  exact q v G3 H3 Fs4 E4
end
end Rn

namespace Rn
open PySem PySem.Spec PyProof.Rows L2
/-! ## a new list of new lists -/
def nstV (vs : List V) (es : List (List Int)) : Rs where
  at_ := fun G H v P => ∃ l, v = .ref l ∧ H l = some (.lst vs) ∧ vs.length ≤ cap ∧ vs.Nodup ∧ vs.length = es.length ∧ (∀ a, P a ↔ a = l ∨ V.ref a ∈ vs) ∧ V.ref l ∉ vs ∧ ∀ (n : Nat) (u : V) (xs : List Int), vs[n]? = some u → es[n]? = some xs → ∃ a, u = .ref a ∧ H a = some (.lst (xs.map V.int)) ∧ xs.length ≤ 1000
  loc := fun ⟨l, h1, h2, h3, h4, h5, h6, h7, h8⟩ g e => ⟨l, h1, (e l ((h6 l).mpr (.inl rfl))).trans h2, h3, h4, h5, h6, h7, fun n u xs hu hx => by
    obtain ⟨a, z1, z2, z3⟩ := h8 n u xs hu hx
    exact ⟨a, z1, (e a ((h6 a).mpr (.inr (z1 ▸ List.mem_of_getElem? hu)))).trans z2, z3⟩⟩
def nstR (es : List (List Int)) : Rs where
  at_ := fun G H v P => ∃ vs, (nstV vs es).at_ G H v P
  loc := fun ⟨vs, h⟩ g e => ⟨vs, (nstV vs es).loc h g e⟩
/-- the state of a comprehension that makes new lists -/
structure Lcn (G H : Hp) (D : Addr) (es : List (List Int)) (G1 H1 : Hp) : Prop where
  w : Grow G H G1 H1
  d : G1 D = none
  l : ∃ vs, H1 D = some (.lst vs) ∧ vs.Nodup ∧ vs.length = es.length ∧ (∀ u ∈ vs, ∃ a, u = V.ref a ∧ H a = none ∧ G1 a = none ∧ a ≠ D ∧ H1 a ≠ none) ∧ ∀ (n : Nat) (u : V) (xs : List Int), vs[n]? = some u → es[n]? = some xs → ∃ a, u = .ref a ∧ H1 a = some (.lst (xs.map V.int)) ∧ xs.length ≤ 1000
theorem Lcn.start {G H : Hp} (e : Ex G H) {D : Addr} (hD : H D = none) : Lcn G H D [] G (upd H D (.lst [])) := ⟨.raw e hD, e.none hD, [], upd_same, List.nodup_nil, rfl, (fun _ h => nomatch h), fun n u xs h => by simp at h⟩
theorem Lcn.step {G H G1 H1 G2 H2 : Hp} {D : Addr} {es : List (List Int)} (L : Lcn G H D es G1 H1) (w : Grow G1 H1 G2 H2) : Lcn G H D es G2 H2 := by
  obtain ⟨vs, h1, h2, h3, h4, h5⟩ := L.l
  refine ⟨L.w.trans w, (w.o D (by rw [h1]; exact fun z => by cases z)).trans L.d, vs, w.h _ _ h1, h2, h3, fun u hu => ?_, fun n u xs hu hx => ?_⟩
  · obtain ⟨a, z1, z2, z3, z4, z5⟩ := h4 u hu
    exact ⟨a, z1, z2, (w.o a z5).trans z3, z4, w.h.some z5⟩
  · obtain ⟨a, z1, z2, z3⟩ := h5 n u xs hu hx
    exact ⟨a, z1, w.h _ _ z2, z3⟩
theorem Lcn.push {G H G1 H1 G2 H2 : Hp} {D b : Addr} {es : List (List Int)} {xs : List Int} {acc : List V} (hD : H D = none) (L : Lcn G H D es G1 H1) (w : Grow G1 H1 G2 H2) (hb : H1 b = none) (hg : G2 b = none) (hl : H2 b = some (.lst (xs.map V.int))) (hx : xs.length ≤ 1000) (ha : H2 D = some (.lst acc)) : Lcn G H D (es ++ [xs]) G2 (upd H2 D (.lst (acc ++ [.ref b]))) := by
  have L2 := L.step w
  obtain ⟨vs0, g1, _, _, g4, _⟩ := L.l
  obtain ⟨vs, h1, h2, h3, h4, h5⟩ := L2.l
  have e0 : vs0 = vs := by have := w.h _ _ g1; rw [h1] at this; exact (HO.lst.inj (Option.some.inj this)).symm
  subst e0
  have e : vs0 = acc := by rw [h1] at ha; exact HO.lst.inj (Option.some.inj ha)
  subst e
  have hbD : b ≠ D := fun z => by rw [z, g1] at hb; cases hb
  have hnb : V.ref b ∉ vs0 := fun z => by
    obtain ⟨a, z1, _, _, _, z5⟩ := g4 _ z
    cases z1
    exact z5 hb
  refine ⟨⟨L2.w.g, fun a u q => ?_, fun a u q => ?_, L2.w.o⟩, L2.d, _, upd_same, ?_, ?_, fun u hu => ?_, fun n u ys hu hy => ?_⟩
  · rw [upd_ne (ne_of_none q L2.d)]; exact L2.w.s _ _ q
  · rw [upd_ne (ne_of_none q hD)]; exact L2.w.h _ _ q
  · exact List.nodup_append.mpr ⟨h2, List.nodup_cons.mpr ⟨by simp, List.nodup_nil⟩, fun a z1 c z2 z3 => by rw [List.mem_singleton] at z2; subst z2; subst z3; exact hnb z1⟩
  · rw [List.length_append, List.length_append, h3]; rfl
  · rcases List.mem_append.mp hu with z | z
    · obtain ⟨a, z1, z2, z3, z4, z5⟩ := h4 u z
      exact ⟨a, z1, z2, z3, z4, by rw [upd_ne z4]; exact z5⟩
    · rw [List.mem_singleton] at z
      subst z
      exact ⟨b, rfl, L.w.h.none hb, hg, hbD, by rw [upd_ne hbD, hl]; exact fun z => nomatch z⟩
  · by_cases hn : n < vs0.length
    · rw [List.getElem?_append_left hn] at hu
      rw [List.getElem?_append_left (by omega)] at hy
      obtain ⟨a, z1, z2, z3⟩ := h5 n u ys hu hy
      obtain ⟨a', y1, _, _, y4, _⟩ := h4 u (List.mem_of_getElem? hu)
      rw [z1] at y1
      cases y1
      exact ⟨a, z1, by rw [upd_ne y4]; exact z2, z3⟩
    · rw [List.getElem?_append_right (by omega)] at hu
      rw [List.getElem?_append_right (by omega)] at hy
      have e1 : n - vs0.length = 0 := by
        have := (List.getElem?_eq_some_iff.mp hu).1
        simp at this; omega
      have e2 : n - es.length = 0 := by omega
      rw [e1] at hu
      rw [e2] at hy
      cases hu
      cases hy
      exact ⟨b, rfl, by rw [upd_ne hbD]; exact hl, hx⟩
section
variable {X : Cx} {M : Md} {F : Fr} {N : List Str} {sc scope : Scope} {kk : Nat} {Γ Γ' : List Kd} {e a b c elt src : Expr} {es ifs : List Expr} {rest body : List Stmt} {D : Ends} {σ : L2.St} {G H : Hp} {Fs : Nat → Addr → Prop} {d : PyData} {ds : List PyData} {p pos px py pa pc pt pl2 : Pos} {x y : Str} {i j n : Nat} {v u : V} {k k2 : Kd} {vs : List V} {eL : List (List Int)} {xs : List Int}
theorem lcn_turn {D0 : Addr} {zs : List (List Int)} {g1 : List Int} {t : Bool} {v0 : V} {dv : PyData} {G1 H1 Gs Hs : Hp} (hx : Sel N Γ x i k) (hd : k.dry = true) (E : Env F Gs Hs σ Γ Fs) (hD : Hs D0 = none) (L : Lcn Gs Hs D0 zs G1 H1) (rv : Rp G1 v0 dv) (hz : zs.length < cap) (hgl : t = true → g1.length ≤ 1000)
    (hT : ∀ s H0 C0 cl fp, TsP (Xblk X scope s H0 C0 cl fp) F (Γ.set i (.val dv)) ifs t) (hE : t = true → ∀ s H0 C0 cl fp, NP (Xblk X scope s H0 C0 cl fp) F (Γ.set i (.val dv)) elt (g1.map .int))
    {Nx : Hp → Prop} (q1 : t = true → ∀ G2 H2, Lcn Gs Hs D0 (zs ++ [g1]) G2 H2 → Nx H2) (q0 : t = false → ∀ G2 H2, Lcn Gs Hs D0 zs G2 H2 → Nx H2) :
    gName i v0 (wipe σ [i]) H1 fun σ2 H2 => wipe σ2 [i] = wipe σ [i] ∧ tSrc X scope ifs σ2 H2 fun b H3 => if b = true then eSrc X scope elt σ2 H3 fun y H4 => ∃ acc, H4 D0 = some (.lst acc) ∧ acc.length < sizeLine ∧ Nx (upd H4 D0 (.lst (acc ++ [y]))) else Nx H3 := by
  show wipe ((wipe σ [i]).set i (some v0)) [i] = wipe σ [i] ∧ _
  rw [set_set_some]
  refine ⟨wipe_set, fun s H0 C0 cl fp => ?_⟩
  have E2 : Env F G1 H1 (σ.set i (some v0)) (Γ.set i (.val dv)) Fs := (E.grow L.w).putD hx.k hd (kat_val rv)
  refine hT s H0 C0 cl fp _ G1 H1 Fs E2 _ fun G2 H2 w2 => ?_
  have L2 := L.step w2
  cases hp : t with
  | false => exact iteF (q0 hp G2 H2 L2)
  | true =>
    refine iteT fun s H0 C0 cl fp => ?_
    refine hE hp s H0 C0 cl fp _ G2 H2 Fs (E2.grow w2) _ fun b ws G3 H3 w3 hb hg3 hl3 hc3 r3 => ?_
    obtain rfl := r3.ints_inv
    obtain ⟨us, z1, z2, z3, _⟩ := (L2.step w3).l
    exact ⟨us, z1, by rw [z3]; exact cap_lt hz, q1 hp G3 _ (L2.push hD w3 hb hg3 hl3 (hgl hp) z1)⟩
theorem me_lcN {m : Int} {g : Nat → List Int} {pT : Nat → Bool} {pr : Pos} (C : Cok X M F N sc kk) (hm : M.mg "range" = none) (hx : Sel N Γ x i k) (hd : k.dry = true) (hs : EP X F Γ e (.int m)) (hn : m ≤ 100000) (ok : blkC N sc scope [(x, i)] = true) (hl : Loc (relS scope sc) x) (hf : (relS scope sc).names.lookup x = some .local ∨ (scope.names.lookup x == some .cell) = true)
    (hg : sc.names.lookup ("range" : Str) = some .globalImplicit) (hpl : plainE e = true)
    (hT : ∀ j, j < m.toNat → ∀ s H0 C0 cl fp, Cok (Xblk X scope s H0 C0 cl fp) M F N (relS scope sc) kk → TsP (Xblk X scope s H0 C0 cl fp) F (Γ.set i (.val (.int (j : Int)))) ifs (pT j)) (hE : ∀ j, j < m.toNat → pT j = true → (g j).length ≤ 1000 ∧ ∀ s H0 C0 cl fp, Cok (Xblk X scope s H0 C0 cl fp) M F N (relS scope sc) kk → NP (Xblk X scope s H0 C0 cl fp) F (Γ.set i (.val (.int (j : Int)))) elt ((g j).map .int)) (hn0 : -100000 ≤ m)
    (hs2 : ∀ z, foldedSetIterable (.Call (.Name "range" pr) [e] [] pos) X.env z = pure z := by intro _; rfl) :
    ME X F Γ (.ListComp elt [⟨.Name x px, .Call (.Name "range" pr) [e] [] pos, ifs, 0⟩] scope pl2) (fun v => .res v (nstR (((List.range m.toNat).filter pT).map g))) Γ := fun σ G H Fs E Q q => by
  refine ⟨_, pe_lc (wi := _) (g := gName i) (tt := tSrc X scope ifs) (te := eSrc X scope elt) (own := [(x, i)]) C.calm (by rw [C.hN]; exact C.nd) (pi_range1 (gl_of C hg) (C.mgn hm) (pa_cons pe_w pa_nil (star_plain hpl _ _)) (by rw [star_plain hpl]; rfl)) (by rw [C.hN, C.hs]; exact blkOk_by ok) (fun s H C0 cl fp => ?_) (fun s H C0 cl fp => ⟨fun pins s1 σ H5 Q I h => ?_⟩) (fun s H C0 cl fp => ⟨fun pins s1 σ H5 Q I h => ?_⟩) hs2, ?_⟩
  · have C' := C.blk (scope := scope) (s := s) (H := H) (C0 := C0) (cl := cl) (fp := fp)
    refine pg_name (by rw [C'.hN]; exact C'.nd) (by rw [C'.hN]; exact hx.n) (by rw [C'.hs]; exact hl) ?_
    rcases hf with z | z
    · exact .inr (by rw [C'.hs]; exact z)
    · exact .inl z
  · obtain ⟨t, p1, p2⟩ := h s H C0 cl fp
    exact p1.run pins s1 σ _ Q I p2
  · exact pe_w.run pins s1 σ _ Q I (h s H C0 cl fp)
  · refine hs σ G H Fs E _ fun v G1 H1 w1 r1 => ?_
    obtain rfl := r1.int_inv
    refine ⟨m, rfl, by omega, by omega, fun D hD => ?_⟩
    have E1 := E.grow w1
    refine lc_range (lo := 0) (n := m.toNat) (fun j H' => ∃ G', Lcn G1 H1 D ((((List.range m.toNat).take j).filter pT).map g) G' H') ⟨G1, Lcn.start w1.s hD⟩ (fun j H' hj ⟨G', L⟩ => ?_) fun H' ⟨G', L⟩ => ?_
    · have hy : (List.range m.toNat)[j]? = some j := by rw [List.getElem?_range hj]
      have hfl : ((((List.range m.toNat).take j).filter pT).map g).length < cap := by
        rw [List.length_map]
        have := List.length_filter_le pT ((List.range m.toNat).take j)
        rw [List.length_take, List.length_range] at this
        unfold cap; omega
      refine lcn_turn (dv := .int (j : Int)) (t := pT j) (g1 := g j) hx hd E1 hD L (by rw [Int.zero_add]; exact .int) hfl (fun z => (hE j hj z).1) (fun s H0 C0 cl fp => hT j hj s H0 C0 cl fp C.blk) (fun z s H0 C0 cl fp => (hE j hj z).2 s H0 C0 cl fp C.blk) (fun z G2 H2 L2 => ⟨G2, ?_⟩) (fun z G2 H2 L2 => ⟨G2, ?_⟩)
      · rw [take_filter_succ hy, if_pos z, List.map_append]; exact L2
      · rw [take_filter_succ hy, if_neg (by rw [z]; exact Bool.false_ne_true), List.append_nil]; exact L2
    · rw [List.take_of_length_le (by rw [List.length_range]; exact Nat.le_refl _)] at L
      obtain ⟨us, z1, z2, z3, z4, z5⟩ := L.l
      have hlen : us.length ≤ cap := by
        rw [z3, List.length_map]
        have := List.length_filter_le pT (List.range m.toNat)
        rw [List.length_range] at this
        unfold cap; omega
      refine q (.ref D) G' H' _ ((E1.grow L.w).more (k := .res (.ref D) (nstR (((List.range m.toNat).filter pT).map g))) (x := some (.ref D)) (P := fun a => a = D ∨ V.ref a ∈ us) ⟨rfl, us, D, rfl, z1, hlen, z2, z3, fun _ => .rfl, fun h => ?_, z5⟩ fun a ha => ?_)
      · obtain ⟨a, y1, _, _, y4, _⟩ := z4 _ h
        cases y1
        exact y4 rfl
      · rcases ha with h | h
        · rw [h]
          exact ⟨E1.bh.none hD, L.d, (by rw [z1]; exact fun z => nomatch z), fun j z => (E1.fp j _ z).2.2.1 hD⟩
        · obtain ⟨a', y1, y2, y3, _, y5⟩ := z4 _ h
          cases y1
          exact ⟨E1.bh.none y2, y3, y5, fun j z => (E1.fp j _ z).2.2.1 y2⟩
theorem Env.nst (E : Env F G H σ Γ Fs) (hi : Γ[i]? = some (.res v (nstR eL))) : ∃ vs, vs.length = eL.length ∧ Env F G H σ (Γ.set i (.res v (nstV vs eL))) Fs := by
  obtain ⟨h0, vs, h⟩ := E.sl i _ hi
  have h' := h
  obtain ⟨l, _, _, _, _, h5, _⟩ := h
  exact ⟨vs, h5, E.rk hi ⟨h0, h'⟩⟩
/-- an item's list, read -/
theorem lp_item (C : Cok X M F N sc kk) (hx : Sel N Γ x j (.raw u)) (hi : Γ[i]? = some (.res v (nstV vs eL))) (hu : vs[n]? = some u) (hn : eL[n]? = some xs) (hv : Vis sc x) (hd : (x == ("__debug__" : Str)) = false) (hcd : (x == ("__classdict__" : Str)) = false) : LP X F Γ (.Name x px) (xs.map .int) := fun σ G H Fs E Q q => by
  obtain ⟨_, h1⟩ := E.sl j _ hx.k
  obtain ⟨_, l, _, _, _, _, _, _, _, h8⟩ := E.sl i _ hi
  obtain ⟨a, rfl, z2, z3⟩ := h8 n u xs hu hn
  exact w_name C hx hv h1 (q a _ G H (.refl E.gh) z2 (by rw [List.length_map]; unfold cap; omega) (.ints _)) hd hcd
theorem ep_lenN (C : Cok X M F N sc kk) (hm : M.mg "len" = none) (hx : Sel N Γ x i (.res v (nstV vs eL))) (hv : Vis sc x) (hg : sc.names.lookup ("len" : Str) = some .globalImplicit) (hd : (x == ("__debug__" : Str)) = false) (hcd : (x == ("__classdict__" : Str)) = false) : EP X F Γ (.Call (.Name "len" p) [.Name x px] [] pos) (.int eL.length) := fun σ G H Fs E Q q => by
  refine ⟨_, pe_callB call_len_seq (gl_of C hg) (C.mgn hm) PySem.boot_len (pa_cons pe_w pa_nil (star_plain rfl _ _)) (he := star_plain rfl _ _), ?_⟩
  obtain ⟨h0, l, rfl, h2, h3, _, h5, _⟩ := E.sl i _ hx.k
  refine w_name C hx hv h0 ?_ hd hcd
  refine ⟨l, vs, rfl, .inl (.inl (.inl h2)), ?_⟩
  rw [h5]
  exact q _ _ _ (.refl E.gh) .int
theorem ep_isN {p2 : Pos} (C : Cok X M F N sc kk) (hm : M.mg "isinstance" = none) (hmT : M.mg "list" = none) (hx : Sel N Γ x i (.res v (nstV vs eL))) (hv : Vis sc x) (hg : sc.names.lookup ("isinstance" : Str) = some .globalImplicit) (hg2 : sc.names.lookup ("list" : Str) = some .globalImplicit) (hd : (x == ("__debug__" : Str)) = false) (hcd : (x == ("__classdict__" : Str)) = false) : EP X F Γ (.Call (.Name "isinstance" p) [.Name x px, .Name "list" p2] [] pos) (.bool true) := fun σ G H Fs E Q q => by
  refine ⟨_, pe_callB call_isi (gl_of C hg) (C.mgn hm) (by decide +kernel) (pa_cons pe_w (pa_cons (pe_bltn (v := .ty "list") (gl_of C hg2) (C.mgn hmT) bt_list rfl (by decide) (by decide)) pa_nil)), ?_⟩
  obtain ⟨h0, l, rfl, h2, _⟩ := E.sl i _ hx.k
  refine w_name C hx hv h0 ?_ hd hcd
  exact ⟨.ref l, .ty "list", .type "list", .type "list", true, rfl, .ty "list", .base (.lst h2), kit_ty (by decide +kernel), q _ _ _ (.refl E.gh) .bl⟩
/-- for x in (such a list): the items as they are -/
theorem ws_forN {w : Str} {pw : Pos} (Rt : Fr → VK) (J : Nat → List Kd → Prop) (C : Cok X M F N sc kk) (B : Bok X) (E : Env F G H σ Γ Fs) (hx : N[j]? = some x) (hl : Loc sc x) (hs : Sel N Γ w i (.res v (nstV vs eL))) (hu : Vis sc w) (hD : D.rt = Rt F)
    (hJ : ∀ n Γ', J n Γ' → (∃ k, Γ'[j]? = some k ∧ k.dry = true) ∧ ∃ eL', Γ'[i]? = some (.res v (nstV vs eL'))) (h0 : J 0 Γ)
    (hb : ∀ n u Γ', vs[n]? = some u → J n Γ' → ∀ σ G H Fs, Env F G H σ (Γ'.set j (.raw u)) Fs → wSs X body (loopE F Rt (J (n + 1)) fun _ => False) σ H)
    (he : ∀ Γ', J vs.length Γ' → ∀ σ G H Fs, Env F G H σ Γ' Fs → wSs X rest D σ H) (hd : (w == ("__debug__" : Str)) = false) (hcd : (w == ("__classdict__" : Str)) = false) : wSs X (.For (.Name x px) (.Name w pw) body [] pos :: rest) D σ H := by
  refine ws_cons ⟨_, ps_for (passB B) C.calm (pi_list pe_w) (pg_nm C B hx hl) pss_w (fold_no rfl X.env), ?_⟩
  have hat : ∀ {σ' : L2.St} {G' H' : Hp} {Γ' : List Kd} {Fs' : Nat → Addr → Prop} {eL' : List (List Int)} {l : Addr}, v = .ref l → Env F G' H' σ' Γ' Fs' → Γ'[i]? = some (.res v (nstV vs eL')) → H' l = some (.lst vs) := fun {σ' G' H' Γ' Fs' eL' l} hv E' hi => by
    obtain ⟨_, l', e, h2, _⟩ := E'.sl i _ hi
    rw [hv] at e
    cases e
    exact h2
  obtain ⟨h1, l, hv, h3, _⟩ := E.sl i _ hs.k
  refine w_name C hs hu h1 ?_ hd hcd
  refine ⟨l, hv, ⟨vs, .inl (.inl h3)⟩, ?_⟩
  refine for_list (xs := vs) (fun n σ H' => ∃ G' Γ Fs, Env F G' H' σ Γ Fs ∧ J n Γ) ⟨G, Γ, Fs, E, h0⟩ (fun n σ' H' _ ⟨G', Γ', Fs', E', hj⟩ => ?_) (fun n u σ' H' hn ⟨G', Γ', Fs', E', hj⟩ => ?_) fun σ' H' ⟨G', Γ', Fs', E', hj⟩ => he Γ' hj σ' G' H' Fs' E'
  · obtain ⟨_, eL', hi⟩ := hJ n Γ' hj
    exact .inl (.inl (hat hv E' hi))
  · obtain ⟨⟨k, hk, hdk⟩, _⟩ := hJ n Γ' hj
    refine wSs_mono (hb n u Γ' hn hj _ G' H' Fs' (env_raw E' hk hdk)) (fun _ _ z => z) (fun v H z => ?_) (fun _ _ ⟨_, _, _, _, z⟩ => z.elim) (fun _ _ z => z)
    show D.rt v H
    rw [hD]
    exact z
/-- x.append(w), x an item -/
theorem ws_appItem {w : Int} {u2 : Nat} (C : Cok X M F N sc kk) (E : Env F G H σ Γ Fs) (hx : Sel N Γ x j (.raw u)) (hi : Γ[i]? = some (.res v (nstV vs eL))) (hu : vs[n]? = some u) (hn : eL[n]? = some xs) (hlen : xs.length < 1000) (hv : Vis sc x) {Γ' : List Kd} (hΓ : Γ.set i (.res v (nstV vs (eL.set n (xs ++ [w])))) = Γ') (q : ∀ G' H' Fs', Env F G' H' σ Γ' Fs' → wSs X rest D σ H')
    (hb : attributeBase (.Name x px) "append" X.env (eval (.Name x px) X.env) = eval (.Name x px) X.env) (hline : (pa.endLine == pc.line) = true) (hd : (x == ("__debug__" : Str)) = false) (hcd : (x == ("__classdict__" : Str)) = false) :
    wSs X (.Expr (.Call (.Attribute (.Name x px) "append" pa) [.Constant (.int w) u2 pt] [] pc) pos :: rest) D σ H := by
  subst hΓ
  refine ws_cons ⟨_, ps_expr (pe_bm PySem.F.plainAttrs_list PySem.F.slot_list_append PySem.F.type_list_append mt_append pe_w (pa_cons pe_w pa_nil (star_plain rfl _ _)) hb (few_one rfl) hline (star_plain rfl _ _) rfl), ?_⟩
  obtain ⟨_, h1⟩ := E.sl j _ hx.k
  obtain ⟨g0, l, g1, g2, g3, g4, g5, g6, g7, g8⟩ := E.sl i _ hi
  obtain ⟨a, rfl, z2, z3⟩ := g8 n u xs hu hn
  refine w_name C hx hv h1 ?_ hd hcd
  refine ⟨.inl ⟨rfl, _, .inl (.inl z2)⟩, ⟨_, pe_int, ?_⟩⟩
  have hal : a ≠ l := fun z => g7 (z ▸ List.mem_of_getElem? hu)
  have hPa : Fs i a := (g6 a).mpr (.inr (List.mem_of_getElem? hu))
  refine ⟨a, xs.map V.int, .int w, rfl, rfl, z2, by rw [List.length_map]; exact cap_lt (by unfold cap; omega), q G _ _ (E.chg hi (P := Fs i) ⟨g0, l, g1, (upd_ne hal.symm).trans g2, g3, g4, by rw [List.length_set]; exact g5, g6, g7, fun m u' ys hu' hy => ?_⟩ (fun b hb o ho => by rw [upd_ne fun z => hb (by rw [z]; exact hPa)]; exact ho) fun b hb => ⟨?_, .inl hb⟩)⟩
  · by_cases e : m = n
    · subst e
      rw [hu] at hu'
      cases hu'
      rw [List.getElem?_set_self (List.getElem?_eq_some_iff.mp hn).1] at hy
      cases hy
      exact ⟨a, rfl, by rw [upd_same, List.map_append]; rfl, by rw [List.length_append, List.length_singleton]; omega⟩
    · rw [List.getElem?_set_ne (Ne.symm e)] at hy
      obtain ⟨a', y1, y2, y3⟩ := g8 m u' ys hu' hy
      refine ⟨a', y1, ?_, y3⟩
      rw [upd_ne]
      · exact y2
      · intro z
        subst z
        rw [y1] at hu'
        obtain ⟨b1, e1⟩ := List.getElem?_eq_some_iff.mp hu
        obtain ⟨b2, e2⟩ := List.getElem?_eq_some_iff.mp hu'
        exact e (nodup_inj g4 b2 b1 (e2.trans e1.symm))
  · by_cases z : b = a
    · rw [z, upd_same]; exact fun z => nomatch z
    · rw [upd_ne z]; exact (E.fp _ b hb).2.2.1
/-- x.append([]), the list not used any more -/
theorem ws_appNst {p0 : Pos} (C : Cok X M F N sc kk) (E : Env F G H σ Γ Fs) (hx : Sel N Γ x i (.res v (nstV vs eL))) (hlen : vs.length < cap) (hv : Vis sc x) {Γ' : List Kd} (hΓ : Γ.set i .un = Γ') (q : ∀ G' H' Fs', Env F G' H' σ Γ' Fs' → wSs X rest D σ H')
    (hb : attributeBase (.Name x px) "append" X.env (eval (.Name x px) X.env) = eval (.Name x px) X.env) (hline : (pa.endLine == pc.line) = true) (hd : (x == ("__debug__" : Str)) = false) (hcd : (x == ("__classdict__" : Str)) = false) :
    wSs X (.Expr (.Call (.Attribute (.Name x px) "append" pa) [.List [] p0] [] pc) pos :: rest) D σ H := by
  subst hΓ
  refine ws_cons ⟨_, ps_expr (pe_bm PySem.F.plainAttrs_list PySem.F.slot_list_append PySem.F.type_list_append mt_append pe_w (pa_cons pe_w pa_nil (star_plain rfl _ _)) hb (few_one rfl) hline (star_plain rfl _ _) rfl), ?_⟩
  obtain ⟨g0, l, rfl, g2, g3, g4, g5, g6, g7, g8⟩ := E.sl i _ hx.k
  refine w_name C hx hv g0 ?_ hd hcd
  refine ⟨.inl ⟨rfl, _, .inl (.inl g2)⟩, ?_⟩
  refine np_lst (ds := []) ap_nil (by simp [cap]) σ G H Fs E _ fun b ws G1 H1 w1 hb hg1 hl1 hc1 r1 => ?_
  have E1 := E.grow w1
  have hPl : Fs i l := (g6 l).mpr (.inl rfl)
  refine ⟨l, vs, .ref b, rfl, rfl, w1.h _ _ g2, cap_lt hlen, q G1 _ _ (E1.chg hx.k (k' := .un) (P := fun _ => False) (fun _ z => z) (fun c hc o ho => by rw [upd_ne fun z => hc (by rw [z]; exact hPl)]; exact ho) fun _ z => z.elim)⟩
theorem lcr_turn {fE : PyData} {D0 : Addr} {zs : List PyData} {v0 : V} {G1 H1 Gs Hs : Hp} (hx : Sel N Γ x i k) (hd : k.dry = true) (E : Env F Gs Hs σ Γ Fs) (hD : Hs D0 = none) (L : Lcs Gs Hs D0 zs G1 H1) (hz : zs.length < cap)
    (hE : ∀ s H0 C0 cl fp, EP (Xblk X scope s H0 C0 cl fp) F (Γ.set i (.raw v0)) elt fE)
    {Nx : Hp → Prop} (q1 : ∀ G2 H2, Lcs Gs Hs D0 (zs ++ [fE]) G2 H2 → Nx H2) :
    gName i v0 (wipe σ [i]) H1 fun σ2 H2 => wipe σ2 [i] = wipe σ [i] ∧ tSrc X scope [] σ2 H2 fun b H3 => if b = true then eSrc X scope elt σ2 H3 fun y H4 => ∃ acc, H4 D0 = some (.lst acc) ∧ acc.length < sizeLine ∧ Nx (upd H4 D0 (.lst (acc ++ [y]))) else Nx H3 := by
  show wipe ((wipe σ [i]).set i (some v0)) [i] = wipe σ [i] ∧ _
  rw [set_set_some]
  refine ⟨wipe_set, fun s H0 C0 cl fp => ?_⟩
  have E2 : Env F G1 H1 (σ.set i (some v0)) (Γ.set i (.raw v0)) Fs := env_raw (E.grow L.w) hx.k hd
  refine ⟨tYes, pts_nil, ?_⟩
  unfold tYes
  dsimp only
  rw [if_pos rfl]
  intro s H0 C0 cl fp
  refine hE s H0 C0 cl fp _ G1 H1 Fs E2 _ fun v3 G3 H3 w3 r3 => ?_
  have L3 := L.step hD w3
  obtain ⟨us, h3, rs⟩ := L3.l
  refine ⟨us, h3, ?_, q1 G3 _ (L3.push hD h3 r3)⟩
  rw [rs.len]
  exact cap_lt hz
/-- [elt for x in (such a list)] -/
theorem cp_N {fE : List Int → PyData} {w : Str} {pw : Pos} (C : Cok X M F N sc kk) (hx : Sel N Γ x j k) (hd : k.dry = true) (hs : Sel N Γ w i (.res v (nstV vs eL))) (hu : Vis sc w) (ok : blkC N sc scope [(x, j)] = true) (hl : Loc (relS scope sc) x) (hf : (relS scope sc).names.lookup x = some .local ∨ (scope.names.lookup x == some .cell) = true)
    (hE : ∀ (n : Nat) (u : V) (xs : List Int), vs[n]? = some u → eL[n]? = some xs → ∀ s H0 C0 cl fp, Cok (Xblk X scope s H0 C0 cl fp) M F N (relS scope sc) kk → EP (Xblk X scope s H0 C0 cl fp) F (Γ.set j (.raw u)) elt (fE xs)) (hdw : (w == ("__debug__" : Str)) = false) (hcd : (w == ("__classdict__" : Str)) = false) :
    CP X F Γ elt (.Name x px) (.Name w pw) [] scope (eL.map fE) := fun σ G H Fs E Q q => by
  refine ⟨_, gName j, tSrc X scope [], eSrc X scope elt, [(x, j)], pi_list pe_w, by rw [C.hN, C.hs]; exact blkOk_by ok, fun s H C0 cl fp => ?_, fun s H C0 cl fp => ⟨fun pins s1 σ H5 Q I h => ?_⟩, fun s H C0 cl fp => ⟨fun pins s1 σ H5 Q I h => ?_⟩, ?_⟩
  · have C' := C.blk (scope := scope) (s := s) (H := H) (C0 := C0) (cl := cl) (fp := fp)
    refine pg_name (by rw [C'.hN]; exact C'.nd) (by rw [C'.hN]; exact hx.n) (by rw [C'.hs]; exact hl) ?_
    rcases hf with z | z
    · exact .inr (by rw [C'.hs]; exact z)
    · exact .inl z
  · obtain ⟨t, p1, p2⟩ := h s H C0 cl fp
    exact p1.run pins s1 σ _ Q I p2
  · exact pe_w.run pins s1 σ _ Q I (h s H C0 cl fp)
  · obtain ⟨g0, l, hv, g2, g3, g4, g5, g6, g7, g8⟩ := E.sl i _ hs.k
    refine w_name C hs hu g0 ?_ hdw hcd
    refine ⟨l, hv, ⟨vs, .inl (.inl (by rw [g2]))⟩, fun D hD => ?_⟩
    refine lc_list (K := X.K) (a := l) (xs := vs) (fun n H' => ∃ G', Lcs G H D ((eL.take n).map fE) G' H') ⟨G, Lcs.start E.gh hD⟩ (fun n H' _ ⟨G', L⟩ => .inl (.inl (L.w.h _ _ g2))) (fun n u H' hn ⟨G', L⟩ => ?_) fun H' ⟨G', L⟩ => ?_
    · have hlt : n < eL.length := by have := (List.getElem?_eq_some_iff.mp hn).1; omega
      have hn2 : eL[n]? = some eL[n] := List.getElem?_eq_getElem hlt
      refine lcr_turn (fE := fE eL[n]) hx hd E hD L ?_ (fun s H0 C0 cl fp => hE n u _ hn hn2 s H0 C0 cl fp C.blk) (fun G2 H2 L2 => ⟨G2, ?_⟩)
      · rw [List.length_map, List.length_take]; omega
      · rw [List.take_add_one, hn2, List.map_append]; exact L2
    · rw [g5, List.take_length] at L
      obtain ⟨ws, h2, r2⟩ := L.l
      exact q D ws G' H' L.w hD L.d h2 (by rw [List.length_map]; omega) r2
end
end Rn

namespace Rn
open PySem PySem.Spec PyProof.Rows L2
/-! ## defs that only read and hand back a new list -/
def spN (K : PySem.W.Frag) (R : List Ar → List PyData → Prop) : Sp := fun vs H Q _ => ∃ G ars ds, Ex G H ∧ R ars ds ∧ ArL K G H vs ars ∧ ∀ a us G' H', Grow G H G' H' → H a = none → G' a = none → H' a = some (.lst us) → ds.length ≤ cap → RpL G' us ds → Q (.ref a) H'
structure MeN (M : Md) (k : Nat) (Cc : Addr) (m : Str) (R : List Ar → List PyData → Prop) : Prop where
  ex : ∃ (f : Addr) (fd : FuncData) (ps : List Str), FnOk M.P M.w M.K M.mg M.base (L2.CX M.P M.w) k f fd ps (spN M.K R) ∧ Meth M.K Cc m f ∧ Binds M.K fd ps []
def nRt (ds : List PyData) (F : Fr) : VK := fun v H => ∃ a us G, v = .ref a ∧ Grow F.G0 F.B G H ∧ F.B a = none ∧ G a = none ∧ H a = some (.lst us) ∧ ds.length ≤ cap ∧ RpL G us ds
theorem nRt_mono {ds : List PyData} : RtMono (nRt ds) := fun F G1 g o v H ⟨a, us, G, e, w, h1, h2, h3, h4, h5⟩ => ⟨a, us, G, e, ⟨g.trans w.g, w.s, w.h, fun a h => (w.o a h).trans (o a h)⟩, h1, h2, h3, h4, h5⟩
def nEnds (F : Fr) (ds : List PyData) : Ends := { nx := fun _ _ => False, rt := nRt ds F }
theorem pureN_def {M : Md} {x qual : Str} {st : Stmt} {f : Addr} {fd : FuncData} {N ps : List Str} {k : Nat} {R : List Ar → List PyData → Prop} (n : Nat) (Fu : Fun M.K x qual st f fd) (S : FnScope N ps (defScope st)) (hlen : ∀ ars d, R ars d → ars.length = ps.length) (hn : N.length = ps.length + n)
    (body : ∀ (X : Cx) (F : Fr) (σ : L2.St) (ars : List Ar) (ds : List PyData) (Γ : List Kd), Cok X M F N (defScope st) k → Bok X → R ars ds → ars.map Ar.kd ++ List.replicate n .un = Γ → Env F F.G0 F.B σ Γ (fun _ _ => False) → wSs X (defBody st) (nEnds F ds) σ F.B) :
    FnOk M.P M.w M.K M.mg M.base (L2.CX M.P M.w) (k + 1) f fd ps (spN M.K R) := by
  refine Fu.okX S (fun vs H Q E h => ?_) (fun cdv A outer s H vs Q E hr h => ?_)
  · obtain ⟨G, ars, ds, _, h1, h2, _⟩ := h
    rw [h2.len]; exact hlen ars ds h1
  · obtain ⟨G, ars, ds, e, h1, h2, q⟩ := h
    have En := env_start (M := M) (N := N) (n := n) e h2 (by rw [hlen ars ds h1]; exact hn)
    obtain ⟨t, p, h3⟩ := body ((cxOf (L2.CX M.P M.w) M.P M.w M.K M.mg M.base N qual (defScope st) f cdv A outer s H E).nox) ⟨M.K, H, G⟩ (L2.start N vs) ars ds _ ⟨rfl, rfl, rfl, rfl, rfl, rfl, rfl, rfl, S.nd, rfl, hr⟩ ⟨fun _ => rfl, PassesOwn.never, rfl, rfl⟩ h1 rfl En
    refine ⟨fun D σ H' => t (nEnds ⟨M.K, H, G⟩ ds) σ H' ∧ D = { nx := fun _ H' => Q .non H', rt := Q }, ⟨fun pins s1 σ1 H1 D I hw => ?_⟩, h3, rfl⟩
    obtain ⟨hw, rfl⟩ := hw
    refine thn (p.nox.run pins s1 σ1 H1 _ I hw) fun fl s2 hq => ?_
    cases fl with
    | next =>
      obtain ⟨σ', H', I', z⟩ := hq
      exact z.elim
    | ret u =>
      obtain ⟨v, σ', H', I', r, a, us, G', rfl, w, z1, z2, z3, z4, z5⟩ := hq
      exact ⟨_, σ', H', I', r, q a us G' H' w z1 z2 z3 z4 z5⟩
    | brk => exact hq
    | cont => exact hq
section
variable {X : Cx} {M : Md} {F : Fr} {N : List Str} {sc : Scope} {kk : Nat} {Γ : List Kd} {e a : Expr} {es : List Expr} {rest : List Stmt} {D : Ends} {σ : L2.St} {G H : Hp} {Fs : Nat → Addr → Prop} {ds : List PyData} {pos pa : Pos} {m : Str} {Cc : Addr} {ro : Ro}
theorem ws_retN (E : Env F G H σ Γ Fs) (h : NP X F Γ e ds) (hD : D.rt = nRt ds F := by rfl) : wSs X (.Return (some e) pos :: rest) D σ H :=
  ws_cons ⟨_, ps_ret pe_w, h σ G H Fs E _ fun b us G1 H1 w1 z1 z2 z3 z4 z5 => by
    show D.rt _ _
    rw [hD]
    exact ⟨b, us, G1, rfl, (E.grow w1).done, E.bh.none z1, z2, z3, z4, z5⟩⟩
theorem MeN.at_ {R : List Ar → List PyData → Prop} {k : Nat} (C : Cok X M F N sc kk) (h : MeN M k Cc m R) : ∃ (f : Addr) (fd : FuncData) (ps : List Str), FnOk X.prog X.w X.K X.mg X.base (L2.CX X.prog X.w) k f fd ps (spN F.K R) ∧ Meth X.K Cc m f ∧ Binds X.K fd ps [] := by
  rw [C.hP, C.hw, C.hK, C.hF, C.hM, C.hb]
  exact h.ex
theorem np_meth {R : List Ar → List PyData → Prop} {k : Nat} {pl0 : Sem Bool} {ars : List Ar} (C : Cok X M F N sc kk) (h : MeN M k Cc m R) (hk : k ≤ kk) (T : Cls M.K Cc) (ho : OV X F Γ a ro) (hI : InsO ro Cc m) (ha : ArP X F Γ (e :: es) ars) (hr : R (.obj ro :: ars) ds)
    (ht : eval (.Call (.Attribute a m pa) (e :: es) [] pos) X.env = (do
      let ov ← eval a X.env
      standAt pa.atName
      let (f, first) ← holding [ov] (getMethod ov m pl0)
      callWith pos f first (backTo pos (starEach (e :: es) X.env)) (backToKw pos (keywordEach [] X.env))))
    (pl : plainE e = true := by rfl) (pls : es.all plainE = true := by rfl) : NP X F Γ (.Call (.Attribute a m pa) (e :: es) [] pos) ds := fun σ G H Fs E Q q => by
  obtain ⟨f, fd, ps, h1, h2, h4⟩ := h.at_ C
  refine ⟨_, pe_meth (C := Cc) pe_w (by rw [C.hK]; exact T) h2 h1 (C.room.mono hk) h4 .nil passL pa_w (star_plain pl _ _) (back_plain pls) ht, ?_⟩
  refine ho σ G H Fs E _ fun u G1 H1 w1 r1 => ?_
  obtain ⟨A, dx, fs, rfl, hA, hno⟩ := hI _ _ _ r1
  refine ⟨A, dx, fs, rfl, hA, hno, ?_⟩
  refine ha σ G1 H1 Fs (E.grow w1) _ fun vs G2 H2 w2 r2 => ?_
  rw [List.append_nil]
  exact ⟨G2, .obj ro :: ars, ds, w2.s, hr, .cons (ro.mono r1 w2.g w2.h) r2, fun b us G3 H3 w3 z1 z2 z3 z4 z5 => q b us G3 H3 ((w1.trans w2).trans w3) ((w1.trans w2).h.none z1) z2 z3 z4 z5⟩
end
end Rn

namespace Rn
open PySem PySem.Spec PyProof.Rows L2
/-! ## answers with a part that was not there before -/
structure Nws where
  at_ : Hp → Hp → V → Prop
  mb : ∀ {B H G : Hp} {v : V}, Ex B H → at_ H G v → at_ B G v
  mg : ∀ {B G G' : Hp} {v : V}, Ex G G' → at_ B G v → at_ B G' v
  less : ∀ {B G : Hp} {A : Addr} {v : V}, ((∀ vs, G A ≠ some (.lst vs)) ∧ ∀ vs, G A ≠ some (.tup vs)) → at_ B G v → at_ B (lessG G A) v
def nN1 : Nws where
  at_ := fun B _ v => ∀ a, v = .ref a → B a = none
  mb := fun e h a z => e.none (h a z)
  mg := fun _ h => h
  less := fun _ h => h
def nN3 : Nws where
  at_ := fun B G v => ∃ t u0 u1 u2, v = .ref t ∧ G t = some (.tup [u0, u1, u2]) ∧ ∀ a, u2 = .ref a → B a = none
  mb := fun e ⟨t, u0, u1, u2, h1, h2, h3⟩ => ⟨t, u0, u1, u2, h1, h2, fun a z => e.none (h3 a z)⟩
  mg := fun g ⟨t, u0, u1, u2, h1, h2, h3⟩ => ⟨t, u0, u1, u2, h1, g _ _ h2, h3⟩
  less := fun hG ⟨t, u0, u1, u2, h1, h2, h3⟩ => ⟨t, u0, u1, u2, h1, by rw [less_ne]; exact h2; intro z; exact hG.2 _ (z ▸ h2), h3⟩
/-- or it is the other's -/
def nN3o (w : V) : Nws where
  at_ := fun B G v => ∃ t u0 u1 u2, v = .ref t ∧ G t = some (.tup [u0, u1, u2]) ∧ ((∀ a, u2 = .ref a → B a = none) ∨ ∃ s w0 w1, w = .ref s ∧ G s = some (.tup [w0, w1, u2]))
  mb := fun e ⟨t, u0, u1, u2, h1, h2, h3⟩ => ⟨t, u0, u1, u2, h1, h2, h3.imp (fun h a z => e.none (h a z)) id⟩
  mg := fun g ⟨t, u0, u1, u2, h1, h2, h3⟩ => ⟨t, u0, u1, u2, h1, g _ _ h2, h3.imp id fun ⟨s, w0, w1, z1, z2⟩ => ⟨s, w0, w1, z1, g _ _ z2⟩⟩
  less := fun hG ⟨t, u0, u1, u2, h1, h2, h3⟩ => ⟨t, u0, u1, u2, h1, by rw [less_ne]; exact h2; intro z; exact hG.2 _ (z ▸ h2), h3.imp id fun ⟨s, w0, w1, z1, z2⟩ => ⟨s, w0, w1, z1, by rw [less_ne]; exact z2; intro z; exact hG.2 _ (z ▸ z2)⟩⟩
/-- a list of three, the two last not there before -/
def nNA : Nws where
  at_ := fun B G v => ∃ l u0 u1 u2, v = .ref l ∧ G l = some (.lst [u0, u1, u2]) ∧ B l = none ∧ (∀ a, u1 = .ref a → B a = none) ∧ ∀ a, u2 = .ref a → B a = none
  mb := fun e ⟨t, u0, u1, u2, h1, h2, h3, h4, h5⟩ => ⟨t, u0, u1, u2, h1, h2, e.none h3, fun a z => e.none (h4 a z), fun a z => e.none (h5 a z)⟩
  mg := fun g ⟨t, u0, u1, u2, h1, h2, h3⟩ => ⟨t, u0, u1, u2, h1, g _ _ h2, h3⟩
  less := fun hG ⟨t, u0, u1, u2, h1, h2, h3⟩ => ⟨t, u0, u1, u2, h1, by rw [less_ne]; exact h2; intro z; exact hG.1 _ (z ▸ h2), h3⟩
def upR (nw : Nws) (B : Hp) (d : PyData) : Rs where
  at_ := fun G _ v P => (∀ a, ¬ P a) ∧ Rp G v d ∧ nw.at_ B G v
  loc := fun ⟨h1, h2, h3⟩ g _ => ⟨h1, h2.mono g, nw.mg g h3⟩
def spU (K : PySem.W.Frag) (nw : List V → Nws) (R : List Ar → PyData → Prop) : Sp := fun vs H Q _ => ∃ G ars d, Ex G H ∧ R ars d ∧ ArL K G H vs ars ∧ ∀ v G' H', Grow G H G' H' → Rp G' v d → (nw vs).at_ H G' v → Q v H'
theorem spU_P {K : PySem.W.Frag} {nw : List V → Nws} {R : List Ar → PyData → Prop} {vs : List V} {H : Hp} {Q : VK} {E : XK} (h : spP K R vs H Q E) : spU K nw R vs H Q E := by
  obtain ⟨G, ars, d, e, hr, ha, q⟩ := h
  exact ⟨G, ars, d, e, hr, ha, fun v G' H' w r _ => q v G' H' w r⟩
structure FnU (M : Md) (k : Nat) (x : Str) (nw : List V → Nws) (R : List Ar → PyData → Prop) : Prop where
  ex : ∃ (f : Addr) (fd : FuncData) (ps : List Str), FnOk M.P M.w M.K M.mg M.base (L2.CX M.P M.w) k f fd ps (spU M.K nw R) ∧ M.mg x = some (.ref f) ∧ PySem.W.keepIn M.K (.ref f) = true ∧ Binds M.K fd ps []
structure MeU (M : Md) (k : Nat) (Cc : Addr) (m : Str) (nw : List V → Nws) (R : List Ar → PyData → Prop) : Prop where
  ex : ∃ (f : Addr) (fd : FuncData) (ps : List Str), FnOk M.P M.w M.K M.mg M.base (L2.CX M.P M.w) k f fd ps (spU M.K nw R) ∧ Meth M.K Cc m f ∧ Binds M.K fd ps []
/-- a promise of this sort is one of a pure def -/
theorem FnU.fn {M : Md} {k : Nat} {x : Str} {nw : List V → Nws} {R : List Ar → PyData → Prop} (h : FnU M k x nw R) : FnA M k x R := by
  obtain ⟨f, fd, ps, h1, h2⟩ := h.ex
  exact ⟨f, fd, ps, h1.imp fun _ _ _ _ => spU_P, h2⟩
theorem MeU.me {M : Md} {k : Nat} {Cc : Addr} {m : Str} {nw : List V → Nws} {R : List Ar → PyData → Prop} (h : MeU M k Cc m nw R) : MeA M k Cc m R fun _ _ => False := by
  obtain ⟨f, fd, ps, h1, h2⟩ := h.ex
  refine ⟨f, fd, ps, h1.imp fun vs H Q E h => ?_, h2⟩
  obtain ⟨G, ars, e, ha, h⟩ := h
  rcases h with ⟨d, hr, q⟩ | ⟨C, z, _⟩
  · exact ⟨G, ars, d, e, hr, ha, fun v G' H' w r _ => q v G' H' w r⟩
  · exact z.elim
def uRt (nw : Nws) (d : PyData) (F : Fr) : VK := fun v H => ∃ G, Grow F.G0 F.B G H ∧ Rp G v d ∧ nw.at_ F.B G v
theorem uRt_mono {nw : Nws} {d : PyData} : RtMono (uRt nw d) := fun F G1 g o v H ⟨G, w, r, z⟩ => ⟨G, ⟨g.trans w.g, w.s, w.h, fun a h => (w.o a h).trans (o a h)⟩, r, z⟩
def uEnds (nw : Nws) (F : Fr) (d : PyData) : Ends := { nx := fun _ _ => False, rt := uRt nw d F }
theorem pureU_def {M : Md} {x qual : Str} {st : Stmt} {f : Addr} {fd : FuncData} {N ps : List Str} {k : Nat} {nw : List V → Nws} {R : List Ar → PyData → Prop} (n : Nat) (Fu : Fun M.K x qual st f fd) (S : FnScope N ps (defScope st)) (hlen : ∀ ars d, R ars d → ars.length = ps.length) (hn : N.length = ps.length + n)
    (body : ∀ (X : Cx) (F : Fr) (vs : List V) (ars : List Ar) (d : PyData) (Γ : List Kd), Cok X M F N (defScope st) k → Bok X → R ars d → ars.map Ar.kd ++ List.replicate n .un = Γ → vs.length = ps.length → Env F F.G0 F.B (L2.start N vs) Γ (fun _ _ => False) → wSs X (defBody st) (uEnds (nw vs) F d) (L2.start N vs) F.B) :
    FnOk M.P M.w M.K M.mg M.base (L2.CX M.P M.w) (k + 1) f fd ps (spU M.K nw R) := by
  refine Fu.okX S (fun vs H Q E h => ?_) (fun cdv A outer s H vs Q E hr h => ?_)
  · obtain ⟨G, ars, d, _, h1, h2, _⟩ := h
    rw [h2.len]; exact hlen ars d h1
  · obtain ⟨G, ars, d, e, h1, h2, q⟩ := h
    have En := env_start (M := M) (N := N) (n := n) e h2 (by rw [hlen ars d h1]; exact hn)
    obtain ⟨t, p, h3⟩ := body ((cxOf (L2.CX M.P M.w) M.P M.w M.K M.mg M.base N qual (defScope st) f cdv A outer s H E).nox) ⟨M.K, H, G⟩ vs ars d _ ⟨rfl, rfl, rfl, rfl, rfl, rfl, rfl, rfl, S.nd, rfl, hr⟩ ⟨fun _ => rfl, PassesOwn.never, rfl, rfl⟩ h1 rfl (by rw [h2.len]; exact hlen ars d h1) En
    refine ⟨fun D σ H' => t (uEnds (nw vs) ⟨M.K, H, G⟩ d) σ H' ∧ D = { nx := fun _ H' => Q .non H', rt := Q }, ⟨fun pins s1 σ1 H1 D I hw => ?_⟩, h3, rfl⟩
    obtain ⟨hw, rfl⟩ := hw
    refine thn (p.nox.run pins s1 σ1 H1 _ I hw) fun fl s2 hq => ?_
    cases fl with
    | next =>
      obtain ⟨σ', H', I', z⟩ := hq
      exact z.elim
    | ret u =>
      obtain ⟨v, σ', H', I', r, G', w, rv, z⟩ := hq
      exact ⟨v, σ', H', I', r, q _ _ _ w rv z⟩
    | brk => exact hq
    | cont => exact hq
section
variable {F : Fr} {G H : Hp} {σ : L2.St} {Γt Γ2 : List Kd} {Fs : Nat → Addr → Prop} {s A dx Cc : Addr} {fs : List (Str × V)} {kvs : List (Int × PyData)} {v : V}
theorem Env.lockU {Γ : List Kd} {s0 : Nat} (E : Env F G H σ Γ Fs) (h0 : Γ[s0]? = some (.arg (.obj (roDict v s Cc dx fs A kvs)))) (hn : ∀ j k, j ≠ s0 → Γ[j]? = some k → k.noA = true ∧ (noRes k = true ∨ ∃ nw B d v, k = .res v (upR nw B d))) : ∃ es, F.B A = some (.dK es) ∧ H A = some (.dK es) ∧ RpD G es kvs ∧ kvs.length ≤ cap ∧ ∀ od,
    Env (lkF F G A (.frz od (.dK es))) (lessG G A) (upd H A (.frz od (.dK es))) σ (Γ.set s0 (.arg (.obj (roLock v s Cc dx fs A od kvs)))) Fs := by
  obtain ⟨hf, u, hu, e, hc⟩ := E.sl s0 _ h0
  have c1 := hc (s, .ins Cc dx fs) (by simp)
  obtain ⟨es, c2, c3, c4⟩ := hc (A, .dic kvs) (by simp)
  have hH := E.bh _ _ c2
  have hlt : s0 < Γ.length := (List.getElem?_eq_some_iff.mp h0).1
  have hG : (∀ vs, G A ≠ some (.lst vs)) ∧ ∀ vs, G A ≠ some (.tup vs) := ⟨(fun vs z => by have := E.gh _ _ z; rw [hH] at this; cases this), (fun vs z => by have := E.gh _ _ z; rw [hH] at this; cases this)⟩
  have hsA : s ≠ A := fun z => by have c1' : F.B s = _ := c1; rw [z, c2] at c1'; cases c1'
  have nA : ∀ i a, Fs i a → a ≠ A := fun i a ha z => by have := (E.fp i a ha).1; rw [z, c2] at this; cases this
  refine ⟨es, c2, hH, c4, c3, fun od => ⟨fun a o h => ?_, fun a o h => ?_, .refl _, fun _ _ => rfl, by rw [List.length_set]; exact E.len, fun i k hk => ?_, E.dis, fun i a ha => ?_⟩⟩
  · by_cases z : a = A
    · rw [z, less_eq] at h; cases h
    · rw [less_ne z] at h; rw [upd_ne z]; exact E.gh a o h
  · by_cases z : a = A
    · have h' : upd F.B A (.frz od (.dK es)) a = some o := h
      rw [z, upd_same] at h'; rw [z, upd_same]; exact h'
    · have h' : upd F.B A (.frz od (.dK es)) a = some o := h
      rw [upd_ne z] at h'; rw [upd_ne z]; exact E.bh a o h'
  · by_cases z : s0 = i
    · subst z
      rw [List.getElem?_set_self hlt] at hk
      obtain rfl := Option.some.inj hk
      refine ⟨hf, u, hu, e, fun p hp => ?_⟩
      rcases List.mem_cons.mp hp with z | z
      · subst z
        show upd F.B A (.frz od (.dK es)) s = _
        rw [upd_ne hsA]; exact c1
      · rw [List.mem_singleton] at z; subst z
        exact ⟨es, upd_same, c3, c4.less hG⟩
    · rw [List.getElem?_set_ne z] at hk
      have hm := hn i k (Ne.symm z) hk
      rcases hm.2 with z2 | ⟨nw, B, d, v, rfl⟩
      · exact kat_less hm.1 (E.sl i k hk) hG (fun v r z => by rw [z] at z2; cases z2) fun a ha => upd_ne (nA _ a ha)
      · obtain ⟨y1, y2, y3, y4⟩ := E.sl i _ hk
        exact ⟨y1, y2, y3.less hG, nw.less hG y4⟩
  · have f := E.fp i a ha
    refine ⟨?_, ?_, ?_, by rw [List.length_set]; exact f.2.2.2⟩
    · show upd F.B A (.frz od (.dK es)) a = none
      rw [upd_ne (nA i a ha)]; exact f.1
    · rw [less_ne (nA i a ha)]; exact f.2.1
    · rw [upd_ne (nA i a ha)]; exact f.2.2.1
end
section
variable {X : Cx} {M : Md} {F : Fr} {N : List Str} {sc scope : Scope} {kk : Nat} {Γ Γt Γ1 Γ' : List Kd} {e a b c elt src : Expr} {es ifs : List Expr} {rest body : List Stmt} {st : Stmt} {D : Ends} {σ : L2.St} {G H : Hp} {Fs : Nat → Addr → Prop} {d da db d1 d2 : PyData} {ds : List PyData} {p pos px py pa pc pt : Pos} {x y f m : Str} {i j n : Nat} {k k2 : Kd} {v : V} {s q A B0 dx Cc : Addr} {fs fs' : List (Str × V)} {cs : List (Addr × Cl)} {cl : Cl} {kvs : List (Int × PyData)}
theorem ws_forItemsU {u s0 : Nat} (J : Obj → Nat → List Kd → Prop) (C : Cok X M F N sc kk) (B : Bok X) (E : Env F G H σ Γ Fs) (h0s : Γ[s0]? = some (.arg (.obj (roDict v s Cc dx fs A kvs)))) (hi : N[i]? = some x) (hj : N[j]? = some y) (hij : i ≠ j) (hl : Loc sc x) (hl2 : Loc sc y)
    (he : ∀ F' od, Cok X M F' N sc kk → VP X F' (Γ.set s0 (.arg (.obj (roLock v s Cc dx fs A od kvs)))) e (.ref A)) (hn : ∀ j k, j ≠ s0 → Γ[j]? = some k → k.noA = true ∧ (noRes k = true ∨ ∃ nw B d v, k = .res v (upR nw B d)))
    (hJ : ∀ od n Γ, J od n Γ → Γ[s0]? = some (.arg (.obj (roLock v s Cc dx fs A od kvs))) ∧ (∀ j k, j ≠ s0 → Γ[j]? = some k → k.noA = true) ∧ ∃ k k2, Γ[i]? = some k ∧ Γ[j]? = some k2 ∧ k.dry = true ∧ k2.dry = true) (h0 : ∀ od, J od 0 (Γ.set s0 (.arg (.obj (roLock v s Cc dx fs A od kvs)))))
    (hb : ∀ F' od n k d Γ', (∀ a, F'.B a = none → F.B a = none) → Cok X M F' N sc kk → kvs[n]? = some (k, d) → J od n Γ' → ∀ σ G H Fs, Env F' G H σ ((Γ'.set i (.val (.int k))).set j (.val d)) Fs → wSs X body { nx := Nx F' fun Γ => J od (n + 1) Γ, rt := fun _ _ => False } σ H)
    (hd : ∀ od Γ', J od kvs.length Γ' → ∀ σ G H Fs, Env F G H σ (Γ'.set s0 (.arg (.obj (roDict v s Cc dx fs A kvs)))) Fs → wSs X rest D σ H)
    (hbase : attributeBase e "items" X.env (eval e X.env) = eval e X.env) (hline : (pa.endLine == pc.line) = true) : wSs X (.For (.Tuple [.Name x px, .Name y py] u pt) (.Call (.Attribute e "items" pa) [] [] pc) body [] pos :: rest) D σ H := by
  obtain ⟨es, hB, hH, hR, hcap, hE⟩ := E.lockU h0s hn
  refine ws_cons ⟨_, ps_lock (ps_for (passB B) C.calm (pi_items pe_w hbase hline) (pg_tup C.calm (pgs_cons (pg_nm C B hi hl) (pgs_cons (pg_nm C B hj hl2) pgs_nil))) pss_w (fold_no rfl X.env)), ?_⟩
  refine ⟨A, .dK es, hH, trivial, fun od => ?_⟩
  have E1 := hE od
  have C1 : Cok X M (lkF F G A (.frz od (.dK es))) N sc kk := cok_lk C
  refine he _ od C1 σ _ _ Fs E1 _ fun G2 H2 w2 => ?_
  have E2 := E1.grow w2
  have hl2 : H2 A = some (.frz od (.dK es)) := E2.bh _ _ upd_same
  refine ⟨A, od, es, rfl, hl2, ?_⟩
  have elen := hR.len
  have hBB : ∀ a, (lkF F G A (.frz od (.dK es))).B a = none → F.B a = none := fun a ha => by
    by_cases z : a = A
    · rw [z] at ha; rw [show (lkF F G A (.frz od (.dK es))).B A = _ from upd_same] at ha; cases ha
    · rw [show (lkF F G A (.frz od (.dK es))).B a = F.B a from upd_ne z] at ha; exact ha
  refine for_it walk_items (fun n σ' H' => ∃ G' Γ' Fs', Env (lkF F G A (.frz od (.dK es))) G' H' σ' Γ' Fs' ∧ J od n Γ') ⟨G2, _, Fs, E2, h0 od⟩ (fun n σ' H' _ ⟨G', Γ', Fs', E', _⟩ => E'.bh _ _ upd_same) (fun n z σ' H' H'' hlt ⟨G', Γ', Fs', E', hj'⟩ hy => ?_) fun σ' H' ⟨G', Γ', Fs', E', hj'⟩ => ?_
  · obtain ⟨T, x', y', rfl, hT, rfl, hx', hy'⟩ := hy
    have hg : ∃ kv, es[n]? = some kv := ⟨es[n], List.getElem?_eq_getElem hlt⟩
    obtain ⟨kv, hkv⟩ := hg
    have hx2 : Option.map (fun kv => kV kv.1) es[n]? = some x' := hx'
    have hy2 : Option.map Prod.snd es[n]? = some y' := hy'
    rw [hkv] at hx2 hy2
    obtain rfl : kV kv.1 = x' := by simpa using hx2
    obtain rfl : kv.2 = y' := by simpa using hy2
    obtain ⟨hJ1, hJ2, ki, kj, hki, hkj, d1, d2⟩ := hJ od n Γ' hj'
    obtain ⟨_, _, _, _, hc⟩ := E'.sl s0 _ hJ1
    obtain ⟨es', hes, _, hR'⟩ := hc (A, .lck od kvs) (by simp)
    have ees : es' = es := by
      have h2 : (lkF F G A (.frz od (.dK es))).B A = some (.frz od (.dK es)) := upd_same
      rw [h2] at hes; cases hes; rfl
    subst ees
    obtain ⟨k, d, hk1, hk2, hk3⟩ := hR'.get hkv
    have E3 := E'.grow (.raw E'.gh (o := .tup [kV kv.1, kv.2]) hT)
    refine ⟨T, _, rfl, .inl (.inl upd_same), rfl, _, _, rfl, _, _, rfl, rfl, ?_⟩
    have E4 := E3.putD (i := i) (k := ki) (k' := .val (.int k)) (v := some (kV kv.1)) hki d1 (kat_val (by rw [hk1]; exact .int))
    have E5 := E4.putD (i := j) (k := kj) (k' := .val d) (v := some kv.2) (by rw [List.getElem?_set_ne hij]; exact hkj) d2 (kat_val hk3)
    refine wSs_mono (hb _ od n k d Γ' hBB C1 hk2 hj' _ G' _ Fs' E5) (fun σ H ⟨G3, Γ3, Fs3, E6, z⟩ => ?_) (fun _ _ z => z.elim) (fun _ _ z => z.elim) (fun _ _ z => z.elim)
    exact ⟨G3, Γ3, Fs3, E6, z⟩
  · rw [elen] at hj'
    obtain ⟨hJ1, hJ2, _⟩ := hJ od _ Γ' hj'
    obtain ⟨h1, E3, _⟩ := E.unlockO h0s hB E' hJ1 hJ2
    exact ⟨h1, hd od Γ' hj' σ' _ _ Fs' E3⟩

def UP (nw : Nws) (X : Cx) (F : Fr) (Γ : List Kd) (e : Expr) (d : PyData) : Prop := ∀ σ G H Fs, Env F G H σ Γ Fs → ∀ Q : VK, (∀ v G' H', Grow G H G' H' → Rp G' v d → nw.at_ H G' v → Q v H') → wE X e σ H Q
theorem UP.ep {nw : Nws} (h : UP nw X F Γ e d) : EP X F Γ e d := fun σ G H Fs E Q q => h σ G H Fs E Q fun v G' H' w r _ => q v G' H' w r
theorem UP.eq {nw : Nws} {d' : PyData} (h : UP nw X F Γ e d) (e' : d = d') : UP nw X F Γ e d' := e' ▸ h
theorem up_np (h : NP X F Γ e ds) : UP nN1 X F Γ e (.list ds) := fun σ G H Fs E Q q => h σ G H Fs E Q fun a vs G' H' w hn hg hp hl r =>
  q _ _ _ (w.freeze hn hg hp) (.lst upd_same hl (r.mono (.new hg))) fun b z => by cases z; exact hn
theorem up_none {u : Nat} : UP nN1 X F Γ (.Constant .none u pos) .none := fun σ G H Fs E Q q => ep_none σ G H Fs E Q fun v G' H' w r => q v G' H' w r fun a z => by cases r; cases z
theorem up_tup3 {d0 d1 d2 : PyData} {u : Nat} (ha : EP X F Γ a d0) (hb : EP X F Γ b d1) (hc : UP nN1 X F Γ c d2) (pl : plainE a = true := by rfl) (pl2 : plainE b = true := by rfl) (pl3 : plainE c = true := by rfl) : UP nN3 X F Γ (.Tuple [a, b, c] u pos) (.tuple [d0, d1, d2]) := fun σ G H Fs E Q q => by
  refine ⟨_, pe_tup (pa_cons pe_w (pa_cons pe_w (pa_cons pe_w pa_nil (star_plain pl3 _ _)) (star_plain pl2 _ _)) (star_plain pl _ _)), ?_⟩
  refine ha σ G H Fs E _ fun u0 G1 H1 w1 r1 => ?_
  refine hb σ G1 H1 Fs (E.grow w1) _ fun u1 G2 H2 w2 r2 => ?_
  refine hc σ G2 H2 Fs ((E.grow w1).grow w2) _ fun u2 G3 H3 w3 r3 z3 => ⟨by simp [sizeLine_eq], fun t ht => ?_⟩
  have w := (w1.trans w2).trans w3
  have g3 := w3.s.none ht
  refine q (.ref t) _ _ (w.trans (.new w3.s ht)) (.tup upd_same (by simp [cap]) (.cons ((r1.mono (w2.g.trans w3.g)).mono (.new g3)) (.cons ((r2.mono w3.g).mono (.new g3)) (.cons (r3.mono (.new g3)) .nil)))) ⟨t, u0, u1, u2, rfl, upd_same, fun b hb => (w1.trans w2).h.none (z3 b hb)⟩
theorem FnU.at_ {nw : List V → Nws} {R : List Ar → PyData → Prop} {k : Nat} (C : Cok X M F N sc kk) (h : FnU M k x nw R) : ∃ (f : Addr) (fd : FuncData) (ps : List Str), FnOk X.prog X.w X.K X.mg X.base (L2.CX X.prog X.w) k f fd ps (spU F.K nw R) ∧ X.mg x = some (.ref f) ∧ PySem.W.keepIn X.K (.ref f) = true ∧ Binds X.K fd ps [] := by
  rw [C.hP, C.hw, C.hK, C.hF, C.hM, C.hb]
  exact h.ex
theorem up_call {nw : Nws} {R : List Ar → PyData → Prop} {k : Nat} {ars : List Ar} (C : Cok X M F N sc kk) (h : FnU M k x (fun _ => nw) R) (hk : k ≤ kk) (hg : sc.names.lookup x = some .globalImplicit) (ha : ArP X F Γ (e :: es) ars) (hr : R ars d)
    (pl : plainE e = true := by rfl) (pls : es.all plainE = true := by rfl) (hd : (x == ("__debug__" : Str)) = false := by decide) : UP nw X F Γ (.Call (.Name x p) (e :: es) [] pos) d := fun σ G H Fs E Q q => by
  obtain ⟨f, fd, ps, h1, h2, h3, h4⟩ := h.at_ C
  refine ⟨_, pe_call h1 (C.room.mono hk) (gl_of C hg) h2 h3 h4 .nil passL pa_w hd (star_plain pl _ _) (back_plain pls), ?_⟩
  refine ha σ G H Fs E _ fun vs G1 H1 w1 r1 => ?_
  rw [List.append_nil]
  exact ⟨G1, ars, d, w1.s, hr, r1, fun v G2 H2 w2 r2 z => q v G2 H2 (w1.trans w2) r2 (nw.mb w1.h z)⟩
/-- a def that is told whole numbers' lists and answers such a list: it is a new one -/
theorem np_callI {R : List Ar → PyData → Prop} {k : Nat} {ars : List Ar} {ns : List Int} (C : Cok X M F N sc kk) (h : FnA M k x R) (hk : k ≤ kk) (hg : sc.names.lookup x = some .globalImplicit) (ha : ArP X F Γ (e :: es) ars) (hr : R ars (.list (ns.map .int))) (hi : ∀ G H vs, ArL F.K G H vs ars → ArL F.K (fun _ => none) H vs ars)
    (pl : plainE e = true := by rfl) (pls : es.all plainE = true := by rfl) (hd : (x == ("__debug__" : Str)) = false := by decide) : NP X F Γ (.Call (.Name x p) (e :: es) [] pos) (ns.map .int) := fun σ G H Fs E Q q => by
  obtain ⟨f, fd, ps, h1, h2, h3, h4⟩ := h.at_ C
  refine ⟨_, pe_call h1 (C.room.mono hk) (gl_of C hg) h2 h3 h4 .nil passL pa_w hd (star_plain pl _ _) (back_plain pls), ?_⟩
  refine ha σ G H Fs E _ fun vs G1 H1 w1 r1 => ?_
  rw [List.append_nil]
  refine ⟨fun _ => none, ars, _, (fun _ _ z => by cases z), hr, hi _ _ _ r1, fun v G2 H2 w2 r2 => ?_⟩
  obtain ⟨a, us, rfl, y1, y2, y3⟩ := r2.lst_inv
  have hn : H1 a = none := by
    cases z : H1 a with
    | none => rfl
    | some o => exfalso; have := w2.o a (by rw [z]; exact fun z => nomatch z); rw [y1] at this; cases this
  obtain rfl := y3.ints_inv
  exact q a _ G1 H2 ⟨w1.g, w1.s.trans w2.h, w1.h.trans w2.h, w1.o⟩ (w1.h.none hn) (w1.s.none hn) (w2.s _ _ y1) y2 (.ints _)
theorem arl_lst2 {K : PySem.W.Frag} {xs ys : List Int} {G H : Hp} {vs : List V} (h : ArL K G H vs [.lst (xs.map .int), .lst (ys.map .int)]) : ArL K (fun _ => none) H vs [.lst (xs.map .int), .lst (ys.map .int)] := by
  cases h with
  | cons h1 h2 =>
    cases h2 with
    | cons h2 h3 =>
      cases h3
      obtain ⟨a, us, rfl, y1, y2, y3⟩ := h1
      obtain ⟨b, ws, rfl, z1, z2, z3⟩ := h2
      obtain rfl := y3.ints_inv
      obtain rfl := z3.ints_inv
      exact .cons ⟨a, _, rfl, y1, y2, .ints _⟩ (.cons ⟨b, _, rfl, z1, z2, .ints _⟩ .nil)
/-- return e -/
theorem ws_retU {nw : Nws} (E : Env F G H σ Γ Fs) (h : UP nw X F Γ e d) (hD : D.rt = uRt nw d F := by rfl) : wSs X (.Return (some e) pos :: rest) D σ H :=
  ws_cons ⟨_, ps_ret pe_w, h σ G H Fs E _ fun v G1 H1 w1 r1 z1 => by
    show D.rt _ _
    rw [hD]
    exact ⟨G1, (E.grow w1).done, r1, nw.mb E.bh z1⟩⟩
/-- x = e -/
theorem me_up {nw : Nws} {B : Hp} (h : UP nw X F Γ e d) (hB : ∀ a, F.B a = none → B a = none) (hm : ∀ {H G : Hp} {v : V}, (∀ a, H a = none → B a = none) → nw.at_ H G v → nw.at_ B G v) : ME X F Γ e (fun v => .res v (upR nw B d)) Γ := fun σ G H Fs E Q q => h σ G H Fs E Q fun v G1 H1 w1 r1 z1 => by
  have E1 := (E.grow w1).more (k := .res v (upR nw B d)) (x := some v) (P := fun _ => False) ⟨rfl, (fun _ z => z), r1, hm (fun a ha => hB a (E.bh.none ha)) z1⟩ (fun a z => z.elim)
  exact q v G1 H1 _ E1
theorem ep_up {nw : Nws} {B : Hp} (C : Cok X M F N sc kk) (h : Sel N Γ x i (.res v (upR nw B d))) (hv : Vis sc x) (hd : (x == ("__debug__" : Str)) = false := by decide) (hcd : (x == ("__classdict__" : Str)) = false := by decide) : EP X F Γ (.Name x pos) d := fun σ G H Fs E Q q => by
  obtain ⟨h1, _, h2, _⟩ := E.sl i _ h.k
  exact w_name C h hv h1 (q v G H (.refl E.gh) h2) hd hcd
theorem ws_retUn {nw : Nws} (C : Cok X M F N sc kk) (E : Env F G H σ Γ Fs) (h : Sel N Γ x i (.res v (upR nw F.B d))) (hv : Vis sc x) (hd : (x == ("__debug__" : Str)) = false) (hcd : (x == ("__classdict__" : Str)) = false) (hD : D.rt = uRt nw d F := by rfl) : wSs X (.Return (some (.Name x px)) pos :: rest) D σ H := by
  refine ws_cons ⟨_, ps_ret pe_w, ?_⟩
  obtain ⟨h1, _, h2, h3⟩ := E.sl i _ h.k
  refine w_name C h hv h1 ?_ hd hcd
  show D.rt _ _
  rw [hD]
  exact ⟨G, E.done, h2, h3⟩
theorem MeU.at_ {nw : List V → Nws} {R : List Ar → PyData → Prop} {k : Nat} (C : Cok X M F N sc kk) (h : MeU M k Cc m nw R) : ∃ (f : Addr) (fd : FuncData) (ps : List Str), FnOk X.prog X.w X.K X.mg X.base (L2.CX X.prog X.w) k f fd ps (spU F.K nw R) ∧ Meth X.K Cc m f ∧ Binds X.K fd ps [] := by
  rw [C.hP, C.hw, C.hK, C.hF, C.hM, C.hb]
  exact h.ex
theorem up_meth {ro : Ro} {nw : Nws} {R : List Ar → PyData → Prop} {k : Nat} {pl0 : Sem Bool} {ars : List Ar} (C : Cok X M F N sc kk) (h : MeU M k Cc m (fun _ => nw) R) (hk : k ≤ kk) (T : Cls M.K Cc) (ho : OV X F Γ a ro) (hI : InsO ro Cc m) (ha : ArP X F Γ (e :: es) ars) (hr : R (.obj ro :: ars) d)
    (ht : eval (.Call (.Attribute a m pa) (e :: es) [] pos) X.env = (do
      let ov ← eval a X.env
      standAt pa.atName
      let (f, first) ← holding [ov] (getMethod ov m pl0)
      callWith pos f first (backTo pos (starEach (e :: es) X.env)) (backToKw pos (keywordEach [] X.env))))
    (pl : plainE e = true := by rfl) (pls : es.all plainE = true := by rfl) : UP nw X F Γ (.Call (.Attribute a m pa) (e :: es) [] pos) d := fun σ G H Fs E Q q => by
  obtain ⟨f, fd, ps, h1, h2, h4⟩ := h.at_ C
  refine ⟨_, pe_meth (C := Cc) pe_w (by rw [C.hK]; exact T) h2 h1 (C.room.mono hk) h4 .nil passL pa_w (star_plain pl _ _) (back_plain pls) ht, ?_⟩
  refine ho σ G H Fs E _ fun u G1 H1 w1 r1 => ?_
  obtain ⟨A, dx, fs, rfl, hA, hno⟩ := hI _ _ _ r1
  refine ⟨A, dx, fs, rfl, hA, hno, ?_⟩
  refine ha σ G1 H1 Fs (E.grow w1) _ fun vs G2 H2 w2 r2 => ?_
  rw [List.append_nil]
  exact ⟨G2, .obj ro :: ars, d, w2.s, hr, .cons (ro.mono r1 w2.g w2.h) r2, fun v G3 H3 w3 r3 z => q v G3 H3 ((w1.trans w2).trans w3) r3 (nw.mb (w1.trans w2).h z)⟩
/-- a method told one new triple, that answers it or a new one -/
theorem up_methT {ro : Ro} {d0 : PyData} {R : List Ar → PyData → Prop} {k : Nat} {pl0 : Sem Bool} (C : Cok X M F N sc kk) (h : MeU M k Cc m (fun vs => nN3o (vs.getD 1 .non)) R) (hk : k ≤ kk) (T : Cls M.K Cc) (ho : OV X F Γ a ro) (hI : InsO ro Cc m) (ha : UP nN3 X F Γ e d0) (hr : R [.obj ro, .dat d0] d)
    (ht : eval (.Call (.Attribute a m pa) [e] [] pos) X.env = (do
      let ov ← eval a X.env
      standAt pa.atName
      let (f, first) ← holding [ov] (getMethod ov m pl0)
      callWith pos f first (backTo pos (starEach [e] X.env)) (backToKw pos (keywordEach [] X.env))))
    (pl : plainE e = true := by rfl) : UP nN3 X F Γ (.Call (.Attribute a m pa) [e] [] pos) d := fun σ G H Fs E Q q => by
  obtain ⟨f, fd, ps, h1, h2, h4⟩ := h.at_ C
  refine ⟨_, pe_meth (C := Cc) pe_w (by rw [C.hK]; exact T) h2 h1 (C.room.mono hk) h4 .nil passL (pa_cons pe_w pa_nil (star_plain pl _ _)) (star_plain pl _ _) (back_plain rfl) ht, ?_⟩
  refine ho σ G H Fs E _ fun u G1 H1 w1 r1 => ?_
  obtain ⟨A, dx, fs, rfl, hA, hno⟩ := hI _ _ _ r1
  refine ⟨A, dx, fs, rfl, hA, hno, ?_⟩
  refine ha σ G1 H1 Fs (E.grow w1) _ fun T G2 H2 w2 r2 z2 => ?_
  refine ⟨G2, [.obj ro, .dat d0], d, w2.s, hr, .cons (ro.mono r1 w2.g w2.h) (.cons r2 .nil), fun v G3 H3 w3 r3 z => q v G3 H3 ((w1.trans w2).trans w3) r3 ?_⟩
  obtain ⟨t, u0, u1, u2, e1, e2, e3⟩ := z
  refine ⟨t, u0, u1, u2, e1, e2, ?_⟩
  rcases e3 with e3 | ⟨s, w0, w1', f1, f2⟩
  · exact fun b hb => (w1.trans w2).h.none (e3 b hb)
  · obtain ⟨t', x0, x1, x2, y1, y2, y3⟩ := z2
    have f1' : T = .ref s := f1
    rw [y1] at f1'
    cases f1'
    have := w3.g _ _ y2
    rw [f2] at this
    cases this
    exact fun b hb => w1.h.none (y3 b hb)
/-- x, y, z = e -/
theorem up_setThree {nw0 : Nws} {Γ' : V → List Kd} {d1 d2 d3 : PyData} {z : Str} {pz : Pos} {l : Nat} {k k2 k3 : Kd} (C : Cok X M F N sc kk) (B : Bok X) (E : Env F G H σ Γ Fs) (hx : Sel N Γ x i k) (hd : k.dry = true) (hl : Loc sc x) (hy : Sel N Γ y j k2) (hd2 : k2.dry = true) (hl2 : Loc sc y) (hz : Sel N Γ z l k3) (hd3 : k3.dry = true) (hl3 : Loc sc z) (hij : i ≠ j) (hil : i ≠ l) (hjl : j ≠ l) (h : UP nN3 X F Γ e d) (hd' : d = .tuple [d1, d2, d3]) {u : Nat} {pt : Pos}
    (hΓ : ∀ v, ((Γ.set i (.val d1)).set j (.val d2)).set l (.res v (upR nN1 F.B d3)) = Γ' v) (q : ∀ v σ' G' H', Env F G' H' σ' (Γ' v) Fs → wSs X rest D σ' H') (hst : swappedStores [.Tuple [.Name x px, .Name y py, .Name z pz] u pt] e X.env = pure none) (hsw : swapsWithSole [.Tuple [.Name x px, .Name y py, .Name z pz] u pt] e pos.line X.env = pure false) :
    wSs X (.Assign [.Tuple [.Name x px, .Name y py, .Name z pz] u pt] e pos :: rest) D σ H := by
  subst hd'
  refine ws_cons ⟨_, ps_asg pe_w (pg_tup C.calm (pgs_cons (pg_nm C B hx.n hl) (pgs_cons (pg_nm C B hy.n hl2) (pgs_cons (pg_nm C B hz.n hl3) pgs_nil)))) hsw hst, ?_⟩
  refine h σ G H Fs E _ fun v G1 H1 w1 r1 z1 => ?_
  obtain ⟨t, u0, u1, u2, rfl, e2, e3⟩ := z1
  obtain ⟨a, vs, ea, h1, hc, r1⟩ := r1.tup_inv
  cases ea
  rw [e2] at h1
  cases h1
  cases r1 with
  | cons ra r2 =>
    cases r2 with
    | cons rb r3 =>
      cases r3 with
      | cons rc r4 =>
        refine ⟨t, _, rfl, .inl (.inl (w1.s _ _ e2)), rfl, _, _, rfl, _, _, rfl, _, [], rfl, rfl, ?_⟩
        have E1 := (E.grow w1).putD hx.k hd (kat_val ra)
        have E2 := E1.putD (i := j) (k' := .val d2) (by rw [List.getElem?_set_ne hij]; exact hy.k) hd2 (kat_val rb)
        have E3 := E2.putD (i := l) (k' := .res u2 (upR nN1 F.B d3)) (v := some u2) (by rw [List.getElem?_set_ne hjl, List.getElem?_set_ne hil]; exact hz.k) hd3 ⟨rfl, (fun _ z => z), rc, fun b hb => E.bh.none (e3 b hb)⟩
        rw [hΓ u2] at E3
        exact q u2 _ G1 H1 E3
end
end Rn

namespace Rn
open PySem PySem.Spec PyProof.Rows L2
/-! ## answers that are thawed -/
/-- an own list, its items from the second on not there before -/
def akR (B : Hp) (ds : List PyData) : Rs where
  at_ := fun G H v P => ∃ l vs, v = .ref l ∧ (∀ b, P b ↔ b = l) ∧ H l = some (.lst vs) ∧ ds.length ≤ cap ∧ RpL G vs ds ∧ ∀ (n : Nat) (u : V) (a : Addr), 1 ≤ n → vs[n]? = some u → u = .ref a → B a = none
  loc := fun ⟨l, vs, h1, h2, h3, h4, h5, h6⟩ g e => ⟨l, vs, h1, h2, (e l ((h2 l).mpr rfl)).trans h3, h4, h5.mono g, h6⟩
noncomputable def ovl (G H : Hp) (P : Addr → Prop) : Hp := fun a => @ite _ (P a) (Classical.propDecidable _) (H a) (G a)
theorem ovl_in {G H : Hp} {P : Addr → Prop} {a : Addr} (h : P a) : ovl G H P a = H a := by unfold ovl; exact if_pos h
theorem ovl_out {G H : Hp} {P : Addr → Prop} {a : Addr} (h : ¬ P a) : ovl G H P a = G a := by unfold ovl; exact if_neg h
def thR (d : PyData) : Rs where
  at_ := fun G H v P => Rp (ovl G H P) v d ∧ ∃ l u0 u1 u2, v = .ref l ∧ H l = some (.lst [u0, u1, u2]) ∧ P l ∧ (∀ a, u1 = .ref a → P a) ∧ ∀ a, u2 = .ref a → P a
  loc := fun {G H G' H' v P} ⟨h0, l, u0, u1, u2, h1, h2, h3, h4, h5⟩ g e => ⟨h0.mono fun a o q => by
    by_cases z : P a
    · rw [ovl_in z] at q ⊢; rw [e a z]; exact q
    · rw [ovl_out z] at q ⊢; exact g a o q, l, u0, u1, u2, h1, (e l h3).trans h2, h3, h4, h5⟩
/-- such a one while its parts are made longer -/
def jkR (p : Addr) (u1 u2 : V) (n : Nat) : Rs where
  at_ := fun G H v P => P p ∧ H p = some (.lst [u1, u2]) ∧ ∀ u a, (u = u1 ∨ u = u2) → u = .ref a → P a ∧ a ≠ p ∧ ∃ ys, H a = some (.lst ys) ∧ ys.length ≤ n
  loc := fun ⟨h1, h2, h3⟩ g e => ⟨h1, (e _ h1).trans h2, fun u a hu z => by
    obtain ⟨y1, y2, ys, y3, y4⟩ := h3 u a hu z
    exact ⟨y1, y2, ys, (e _ y1).trans y3, y4⟩⟩
section
variable {X : Cx} {M : Md} {F : Fr} {N : List Str} {sc scope : Scope} {kk : Nat} {Γ Γ1 Γ' : List Kd} {e a b c elt src : Expr} {es ifs : List Expr} {rest body : List Stmt} {D : Ends} {σ : L2.St} {G H : Hp} {Fs : Nat → Addr → Prop} {d da db : PyData} {ds : List PyData} {p pos px py pa pc pt : Pos} {x y m : Str} {i j n : Nat} {k k2 : Kd} {v u : V}
/-- x[m] = e -/
theorem ws_putA0 {B : Hp} {m : Int} (C : Cok X M F N sc kk) (E : Env F G H σ Γ Fs) (hx : Sel N Γ x i (.res v (akR B ds))) (hv : Vis sc x) (hi : EP X F Γ b (.int m))
    (h : ∀ σ G H Fs, Env F G H σ Γ Fs → ∀ Q : VK, (∀ v G' H', Grow G H G' H' → Rp G' v d → (1 ≤ m → ∀ a, v = .ref a → B a = none) → Q v H') → wE X e σ H Q) (h0 : 0 ≤ m) (h1 : m < ds.length) {Γ' : List Kd} (hΓ : Γ.set i (.res v (akR B (ds.set m.toNat d))) = Γ') (q : ∀ G' H' Fs', Env F G' H' σ Γ' Fs' → wSs X rest D σ H')
    (hd : (x == ("__debug__" : Str)) = false) (hcd : (x == ("__classdict__" : Str)) = false)
    (ha : ∀ v, assign (.Subscript (.Name x px) b pa) X.env v = (do
      let ov ← holding [v] (eval (.Name x px) X.env)
      let iv ← holding [v, ov] (eval b X.env)
      standAt pa
      holding [v, ov, iv] (setItem ov iv v)
      release [v, ov, iv] []) := by intro _; rfl)
    (hsw : swapsWithSole [.Subscript (.Name x px) b pa] e pos.line X.env = pure false := by rfl) (hst : swappedStores [.Subscript (.Name x px) b pa] e X.env = pure none := by rfl) : wSs X (.Assign [.Subscript (.Name x px) b pa] e pos :: rest) D σ H := by
  subst hΓ
  refine ws_cons ⟨_, ps_asg pe_w (pg_sub pe_w pe_w set_list ha) hsw hst, ?_⟩
  refine h σ G H Fs E _ fun u G1 H1 w1 r1 hnew => ?_
  have E1 := E.grow w1
  obtain ⟨s1, A, vs, rfl, hP, s3, s4, s5, s6⟩ := E1.sl i _ hx.k
  refine w_name C hx hv s1 ?_ hd hcd
  refine hi σ G1 H1 Fs E1 _ fun y G2 H2 w2 r2 => ?_
  obtain rfl := r2.int_inv
  have E2 := E1.grow w2
  refine ⟨A, vs, m, m.toNat, rfl, rfl, w2.h _ _ s3, ?_, ?_⟩
  · unfold ixN
    rw [if_pos h0, s5.len, if_pos h1]
  · refine q G2 _ _ (E2.chg hx.k (P := fun b => b = A) ⟨s1, A, _, rfl, fun _ => .rfl, upd_same, by rw [List.length_set]; exact s4, (s5.mono w2.g).set (r1.mono w2.g) _, fun n u' a hn hu hu' => ?_⟩ (fun b hb o ho => ?_) fun b hb => ?_)
    · by_cases z : m.toNat = n
      · subst z
        rw [List.getElem?_set_self (by rw [s5.len]; omega)] at hu
        cases hu
        exact hnew (by omega) a hu'
      · rw [List.getElem?_set_ne z] at hu
        exact s6 n u' a hn hu hu'
    · rw [upd_ne fun z => hb ((hP b).mpr z)]; exact ho
    · subst hb; exact ⟨(by rw [upd_same]; exact fun z => nomatch z), .inl ((hP _).mpr rfl)⟩
theorem pu_ep {B : Hp} {m : Int} (hm : m = 0) (h : EP X F Γ e d) : ∀ σ G H Fs, Env F G H σ Γ Fs → ∀ Q : VK, (∀ v G' H', Grow G H G' H' → Rp G' v d → (1 ≤ m → ∀ a, v = .ref a → B a = none) → Q v H') → wE X e σ H Q := fun σ G H Fs E Q q => h σ G H Fs E Q fun v G' H' w r => q v G' H' w r fun z => by omega
theorem pu_up {B : Hp} {m : Int} (hB : ∀ a, F.B a = none → B a = none) (h : UP nN1 X F Γ e d) : ∀ σ G H Fs, Env F G H σ Γ Fs → ∀ Q : VK, (∀ v G' H', Grow G H G' H' → Rp G' v d → (1 ≤ m → ∀ a, v = .ref a → B a = none) → Q v H') → wE X e σ H Q := fun σ G H Fs E Q q => h σ G H Fs E Q fun v G' H' w r z => q v G' H' w r fun _ a ha => hB a (E.bh.none (z a ha))
/-- return such a list -/
theorem ws_retA {d0 d1 d2 : PyData} (C : Cok X M F N sc kk) (E : Env F G H σ Γ Fs) (hx : Sel N Γ x i (.res v (akR F.B [d0, d1, d2]))) (hv : Vis sc x) (hd : (x == ("__debug__" : Str)) = false) (hcd : (x == ("__classdict__" : Str)) = false) (hD : D.rt = uRt nNA (.list [d0, d1, d2]) F := by rfl) : wSs X (.Return (some (.Name x px)) pos :: rest) D σ H := by
  refine ws_cons ⟨_, ps_ret pe_w, ?_⟩
  obtain ⟨h1, l, vs, rfl, h2, h3, h4, h5, h6⟩ := E.sl i _ hx.k
  refine w_name C hx hv h1 ?_ hd hcd
  show D.rt _ _
  rw [hD]
  have hl := E.fp i l ((h2 l).mpr rfl)
  have gg : Ex G (upd G l (.lst vs)) := .new hl.2.1
  cases h5 with
  | cons ra r2 =>
    cases r2 with
    | cons rb r3 =>
      cases r3 with
      | cons rc r4 =>
        cases r4
        refine ⟨_, ⟨E.g0.trans gg, fun a o q => ?_, E.bh, fun a ha => ?_⟩, .lst upd_same h4 (.cons (ra.mono gg) (.cons (rb.mono gg) (.cons (rc.mono gg) .nil))), l, _, _, _, rfl, upd_same, hl.1, fun a z => h6 1 _ a (by omega) rfl z, fun a z => h6 2 _ a (by omega) rfl z⟩
        · by_cases z : a = l
          · rw [z, upd_same] at q; rw [z]; cases q; exact h3
          · rw [upd_ne z] at q; exact E.gh a o q
        · rw [upd_ne fun z => ha (by rw [z]; exact hl.1)]; exact E.go a ha
/-- such an answer, thawed -/
theorem me_thaw {d0 d1 d2 : PyData} (h : UP nNA X F Γ e (.list [d0, d1, d2])) : ME X F Γ e (fun v => .res v (thR (.list [d0, d1, d2]))) Γ := fun σ G H Fs E Q q => h σ G H Fs E Q fun v G' H' w r z => by
  obtain ⟨l, u0, u1, u2, rfl, y1, y2, y3, y4⟩ := z
  have E1 : Env F G H' σ Γ Fs := E.grow ⟨.refl G, E.gh.trans w.h, w.h, fun _ _ => rfl⟩
  obtain ⟨l', vs, el, z1, z2, z3⟩ := r.lst_inv
  cases el
  rw [y1] at z1
  cases z1
  cases z3 with
  | cons ra r2 =>
    cases r2 with
    | cons rb r3 =>
      cases r3 with
      | cons rc r4 =>
        cases r4
        have hin : ∀ {u : V} {dd : PyData} {a : Addr}, Rp G' u dd → u = .ref a → G' a ≠ none := fun {u dd a} ru hu => by
          subst hu
          cases ru with
          | lst q1 _ _ => rw [q1]; exact fun z => nomatch z
          | tup q1 _ _ => rw [q1]; exact fun z => nomatch z
        refine q (.ref l) G H' _ (E1.more (k := .res (.ref l) (thR (.list [d0, d1, d2]))) (x := some (.ref l)) (P := fun a => H a = none ∧ G' a ≠ none) ⟨rfl, r.mono fun a o ho => ?_, l, u0, u1, u2, rfl, w.s _ _ y1, ⟨y2, by rw [y1]; exact fun z => nomatch z⟩, fun a ha => ⟨y3 a ha, hin rb ha⟩, fun a ha => ⟨y4 a ha, hin rc ha⟩⟩ fun a ha => ⟨E.bh.none ha.1, E.gh.none ha.1, ?_, fun j z => (E.fp j _ z).2.2.1 ha.1⟩)
        · by_cases z : H a = none
          · rw [ovl_in ⟨z, by rw [ho]; exact fun z => nomatch z⟩]; exact w.s a o ho
          · rw [ovl_out fun y => z y.1, ← w.o a z]; exact ho
        · cases z : G' a with
          | none => exact absurd z ha.2
          | some o => rw [w.s a o z]; exact fun z => nomatch z
/-- x != b, x thawed -/
theorem tp_neTh {n m : Nat} (C : Cok X M F N sc kk) (hx : Sel N Γ x i (.res v (thR d))) (hv : Vis sc x) (hb : EP X F Γ b db) (h1 : Nd n d) (h2 : Nd m db) (hn : n ≤ 64) (hm : m ≤ 64) (hd : (x == ("__debug__" : Str)) = false) (hcd : (x == ("__classdict__" : Str)) = false) (hxm : behindInMarks .NotEq b = false := by first | rfl | exact nomark _) : TP_ X F Γ (.Compare (.Name x px) [.NotEq] [b] pos) (!eqD d db) := fun σ G H Fs E Q q => by
  have hu : X.A.units + 64 < cLine := by have := C.room.un; omega
  refine ⟨_, pt_cmpR (op_neD hu) pe_w pe_w hxm, ?_⟩
  obtain ⟨s1, s2, _⟩ := E.sl i _ hx.k
  refine w_name C hx hv s1 ?_ hd hcd
  refine hb σ G H Fs E _ fun u G1 H1 w1 r1 => ?_
  have ex : Ex (ovl G H (Fs i)) H1 := fun a o ho => by
    by_cases z : Fs i a
    · rw [ovl_in z] at ho; exact w1.h a o ho
    · rw [ovl_out z] at ho; exact w1.h a o (E.gh a o ho)
  refine ⟨_, _, s2.dp ex, r1.dp w1.s, nd_shaped h1 hn, nd_shaped h2 hm, ?_⟩
  rw [nd_eq h1 h2]
  exact ⟨_, rfl, q _ _ w1⟩
theorem tp_rawNot {t : Bool} {u2 : Nat} {p4 : Pos} (C : Cok X M F N sc kk) (hx : Sel N Γ x i (.raw u)) (hv : Vis sc x) (ht : (u = .non ∧ t = false) ∨ ((∃ a, u = .ref a) ∧ t = true)) (hd : (x == ("__debug__" : Str)) = false) (hcd : (x == ("__classdict__" : Str)) = false) (hm : behindInMarks .IsNot (.Constant .none u2 p4) = false := by first | rfl | exact nomark _) : TP_ X F Γ (.Compare (.Name x px) [.IsNot] [.Constant .none u2 p4] pos) t := fun σ G H Fs E Q q => by
  refine ⟨_, pt_cmpR op_w pe_w pe_w hm, ?_⟩
  obtain ⟨_, s1⟩ := E.sl i _ hx.k
  refine w_name C hx hv s1 ?_ hd hcd
  refine ep_none σ G H Fs E _ fun y G1 H1 w1 r1 => ?_
  obtain rfl := r1.non_inv
  refine ⟨_, op_notN, rfl, ?_⟩
  rcases ht with ⟨rfl, rfl⟩ | ⟨⟨a, rfl⟩, rfl⟩
  · exact ⟨_, rfl, q _ _ w1⟩
  · exact ⟨_, rfl, q _ _ w1⟩
/-- x.append(n), x a part of such a one -/
theorem ws_appRaw {w : Int} {u0 : Nat} {p0 : Addr} {u1 u2 v0 : V} {A : Addr} (C : Cok X M F N sc kk) (E : Env F G H σ Γ Fs) (hx : Sel N Γ x j (.raw (.ref A))) (hi : Γ[i]? = some (.res v0 (jkR p0 u1 u2 n))) (hA : V.ref A = u1 ∨ V.ref A = u2) (hlen : n < 1000) (hv : Vis sc x) {Γ' : List Kd} (hΓ : Γ.set i (.res v0 (jkR p0 u1 u2 (n + 1))) = Γ') (q : ∀ G' H' Fs', Env F G' H' σ Γ' Fs' → wSs X rest D σ H')
    (hb : attributeBase (.Name x px) "append" X.env (eval (.Name x px) X.env) = eval (.Name x px) X.env) (hline : (pa.endLine == pc.line) = true) (hd : (x == ("__debug__" : Str)) = false) (hcd : (x == ("__classdict__" : Str)) = false) :
    wSs X (.Expr (.Call (.Attribute (.Name x px) "append" pa) [.Constant (.int w) u0 pt] [] pc) pos :: rest) D σ H := by
  refine ws_cons ⟨_, ps_expr (pe_bm PySem.F.plainAttrs_list PySem.F.slot_list_append PySem.F.type_list_append mt_append pe_w (pa_cons pe_w pa_nil (star_plain rfl _ _)) hb (few_one rfl) hline (star_plain rfl _ _) rfl), ?_⟩
  obtain ⟨_, h1⟩ := E.sl j _ hx.k
  obtain ⟨g0, g1, g2, g3⟩ := E.sl i _ hi
  obtain ⟨hPa, hne, ys, hys, hyl⟩ := g3 _ A hA rfl
  refine w_name C hx hv h1 ?_ hd hcd
  refine ⟨.inl ⟨rfl, _, .inl (.inl hys)⟩, ⟨_, pe_int, ?_⟩⟩
  have E2 := E.chg (H' := upd H A (.lst (ys ++ [.int w]))) (k' := .res v0 (jkR p0 u1 u2 (n + 1))) hi (P := Fs i) ⟨g0, g1, (upd_ne hne.symm).trans g2, fun u a hu z => ?_⟩ (fun b hb o ho => by rw [upd_ne fun z => hb (by rw [z]; exact hPa)]; exact ho) fun b hb => ⟨?_, .inl hb⟩
  · rw [hΓ] at E2
    exact ⟨A, ys, .int w, rfl, rfl, hys, cap_lt (by unfold cap; omega), q G _ _ E2⟩
  · by_cases e : a = A
    · subst e
      exact ⟨hPa, hne, _, upd_same, by rw [List.length_append, List.length_singleton]; omega⟩
    · obtain ⟨y1, y2, ys', y3, y4⟩ := g3 u a hu z
      exact ⟨y1, y2, ys', (upd_ne e).trans y3, by omega⟩
  · by_cases z : b = A
    · rw [z, upd_same]; exact fun z => nomatch z
    · rw [upd_ne z]; exact (E.fp _ b hb).2.2.1
theorem Sel.re : ∀ {N : List Str} {Γ Γ' : List Kd} {x : Str} {i : Nat} {k k' : Kd}, Sel N Γ x i k → Γ'[i]? = some k' → Sel N Γ' x i k'
  | _, _, [], _, _, _, _, _, h => by simp at h
  | _, _, _ :: _, _, _, _, _, .here, h => by
    obtain rfl : _ = _ := by simpa using h
    exact .here
  | _, _, _ :: _, _, _, _, _, .there s, h => .there (s.re (by simpa using h))
/-- for x in w[1:]: if x is not None: x.append(n), w thawed and not used any more -/
theorem ws_forTh {w : Str} {w2 : Int} {d0 d1 d2 : PyData} {u1 u2 u3 : Nat} {pw p1 p2 p3 p4 p5 p6 p7 px2 px3 : Pos} (C : Cok X M F N sc kk) (B : Bok X) (E : Env F G H σ Γ Fs) (hs : Sel N Γ w i (.res v (thR (.list [d0, d1, d2])))) (hu : Vis sc w)
    (h1 : d1 = .none ∨ ∃ ds, d1 = .list ds ∧ ds.length ≤ 900) (h2 : d2 = .none ∨ ∃ ds, d2 = .list ds ∧ ds.length ≤ 900) (hx : Sel N Γ x j k) (hd : k.dry = true) (hij : i ≠ j) (hl : Loc sc x) (hv : Vis sc x)
    (q : ∀ k' σ' G' H' Fs', k'.dry = true → Env F G' H' σ' ((Γ.set i .un).set j k') Fs' → wSs X rest D σ' H')
    (hdw : (w == ("__debug__" : Str)) = false) (hcdw : (w == ("__classdict__" : Str)) = false) (hdx : (x == ("__debug__" : Str)) = false) (hcdx : (x == ("__classdict__" : Str)) = false)
    (hb : attributeBase (.Name x px3) "append" X.env (eval (.Name x px3) X.env) = eval (.Name x px3) X.env) (hline : (pa.endLine == pc.line) = true)
    (hfo : ∀ z, foldedSetIterable (.Subscript (.Name w pw) (.Slice (some (.Constant (.int 1) u1 p1)) none none p2) p3) X.env z = pure z := by intro _; rfl) :
    wSs X (.For (.Name x px) (.Subscript (.Name w pw) (.Slice (some (.Constant (.int 1) u1 p1)) none none p2) p3) [.If (.Compare (.Name x px2) [.IsNot] [.Constant .none u2 p4] p5) [.Expr (.Call (.Attribute (.Name x px3) "append" pa) [.Constant (.int w2) u3 pt] [] pc) p6] [] p7] [] pos :: rest) D σ H := by
  have Wo : ∀ (e : Option Expr), PO X e (wO X e) := fun e => ⟨fun pins s σ H Q I h => by obtain ⟨t, p, q⟩ := h; exact p.run pins s σ H Q I q⟩
  refine ws_cons ⟨_, ps_for (passB B) C.calm (pi_list (pe_slice sl_list pe_w (Wo _) (Wo _))) (pg_nm C B hx.n hl) pss_w hfo, ?_⟩
  obtain ⟨s1, s2, l, y0, y1, y2, rfl, z1, z2, z3, z4⟩ := E.sl i _ hs.k
  refine w_name C hs hu s1 ?_ hdw hcdw
  refine op_some ep_int σ G H Fs E _ fun G1 H1 w1 => op_none σ G1 H1 Fs (E.grow w1) _ fun G2 H2 w2 => ?_
  have wg := w1.trans w2
  have E2 := E.grow wg
  refine ⟨l, _, rfl, .inl (.inl (wg.h _ _ z1)), fun p hp => ?_⟩
  refine ⟨p, rfl, ⟨[y1, y2], .inl (.inl upd_same)⟩, ?_⟩
  have hpn : ∀ a, Fs i a → a ≠ p := fun a ha z => (E2.fp i a ha).2.2.1 (z ▸ hp)
  have hl' := ovl_in (G := G) (H := H) z2
  obtain ⟨l', vs, el, f1, f2, f3⟩ := s2.lst_inv
  cases el
  rw [ovl_in z2, z1] at f1
  cases f1
  have hpart : ∀ (u : V) (a : Addr), (u = y1 ∨ u = y2) → u = .ref a → Fs i a ∧ ∃ ys, H a = some (.lst ys) ∧ ys.length ≤ 900 := by
    cases f3 with
    | cons ra r2 =>
      cases r2 with
      | cons rb r3 =>
        cases r3 with
        | cons rc r4 =>
          intro u a hu ha
          subst ha
          rcases hu with rfl | rfl
          · have hP := z3 a rfl
            refine ⟨hP, ?_⟩
            rcases h1 with rfl | ⟨ds, rfl, hds⟩
            · cases rb
            · obtain ⟨a', us, ea, g1, g2, g3⟩ := rb.lst_inv
              cases ea
              rw [ovl_in hP] at g1
              exact ⟨us, g1, by rw [g3.len]; exact hds⟩
          · have hP := z4 a rfl
            refine ⟨hP, ?_⟩
            rcases h2 with rfl | ⟨ds, rfl, hds⟩
            · cases rc
            · obtain ⟨a', us, ea, g1, g2, g3⟩ := rc.lst_inv
              cases ea
              rw [ovl_in hP] at g1
              exact ⟨us, g1, by rw [g3.len]; exact hds⟩
  have hnon : ∀ u : V, (u = y1 ∨ u = y2) → u = .non ∨ ∃ a, u = .ref a := by
    cases f3 with
    | cons ra r2 =>
      cases r2 with
      | cons rb r3 =>
        cases r3 with
        | cons rc r4 =>
          intro u hu
          rcases hu with rfl | rfl
          · rcases h1 with rfl | ⟨ds, rfl, hds⟩
            · cases rb; exact .inl rfl
            · obtain ⟨a', us, ea, _⟩ := rb.lst_inv; exact .inr ⟨a', ea⟩
          · rcases h2 with rfl | ⟨ds, rfl, hds⟩
            · cases rc; exact .inl rfl
            · obtain ⟨a', us, ea, _⟩ := rc.lst_inv; exact .inr ⟨a', ea⟩
  have E3 := E2.grow (.raw E2.gh (o := .lst [y1, y2]) hp)
  have E4 := E3.adopt (k' := .res (.ref l) (jkR p y1 y2 900)) (P := fun a => Fs i a ∨ a = p) hs.k ⟨s1, .inr rfl, upd_same, fun u a hu ha => by
    obtain ⟨g1, ys, g2, g3⟩ := hpart u a hu ha
    exact ⟨.inl g1, hpn a g1, ys, (upd_ne (hpn a g1)).trans (wg.h _ _ g2), g3⟩⟩ fun a ha => by
      rcases ha with ha | rfl
      · exact .inl ha
      · exact .inr ⟨E2.bh.none hp, E2.gh.none hp, (by rw [upd_same]; exact fun z => nomatch z), fun j z => (E2.fp j _ z).2.2.1 hp⟩
  refine for_list (xs := [y1, y2]) (fun n σ H' => ∃ G' Γ' Fs', Env F G' H' σ Γ' Fs' ∧ ∃ k', k'.dry = true ∧ Γ' = (Γ.set i (.res (.ref l) (jkR p y1 y2 (900 + n)))).set j k') ⟨_, _, _, E4, k, hd, ?_⟩ (fun n σ' H' _ ⟨G', Γ', Fs', E', k', _, e'⟩ => ?_) (fun n u σ' H' hn ⟨G', Γ', Fs', E', k', hk', e'⟩ => ?_) fun σ' H' ⟨G', Γ', Fs', E', k', hk', e'⟩ => ?_
  · refine List.ext_getElem? fun n => ?_
    by_cases z : n = j
    · subst z
      have hlt := (List.getElem?_eq_some_iff.mp hx.k).1
      rw [List.getElem?_set_self (by rw [List.length_set]; exact hlt), List.getElem?_set_ne hij]; exact hx.k
    · rw [List.getElem?_set_ne (Ne.symm z)]
  · subst e'
    have hi' : ((Γ.set i (.res (.ref l) (jkR p y1 y2 (900 + n)))).set j k')[i]? = some (.res (.ref l) (jkR p y1 y2 (900 + n))) := by
      rw [List.getElem?_set_ne (Ne.symm hij), List.getElem?_set_self (List.getElem?_eq_some_iff.mp hs.k).1]
    obtain ⟨_, _, g2, _⟩ := E'.sl i _ hi'
    exact .inl (.inl g2)
  · subst e'
    have hjl := (List.getElem?_eq_some_iff.mp hx.k).1
    have hil := (List.getElem?_eq_some_iff.mp hs.k).1
    have hn2 : n < 2 := (List.getElem?_eq_some_iff.mp hn).1
    have hu' : u = y1 ∨ u = y2 := by
      match n, hn with
      | 0, hn => cases hn; exact .inl rfl
      | 1, hn => cases hn; exact .inr rfl
    have E5 := env_raw E' (i := j) (k := k') (v := u) (by rw [List.getElem?_set_self (by rw [List.length_set]; exact hjl)]) hk'
    rw [List.set_set] at E5
    have hselj : Sel N ((Γ.set i (.res (.ref l) (jkR p y1 y2 (900 + n)))).set j (.raw u)) x j (.raw u) := hx.re (by rw [List.getElem?_set_self (by rw [List.length_set]; exact hjl)])
    have hseli : ((Γ.set i (.res (.ref l) (jkR p y1 y2 (900 + n)))).set j (.raw u))[i]? = some (.res (.ref l) (jkR p y1 y2 (900 + n))) := by
      rw [List.getElem?_set_ne (Ne.symm hij), List.getElem?_set_self hil]
    have hup : ∀ {G9 H9 σ9 Fs9}, Env F G9 H9 σ9 ((Γ.set i (.res (.ref l) (jkR p y1 y2 (900 + n)))).set j (.raw u)) Fs9 → ∃ Fs', Env F G9 H9 σ9 ((Γ.set i (.res (.ref l) (jkR p y1 y2 (900 + (n + 1))))).set j (.raw u)) Fs' := fun {G9 H9 σ9 Fs9} E9 => by
      obtain ⟨g0, g1, g2, g3⟩ := E9.sl i _ hseli
      have := E9.rk hseli (k' := .res (.ref l) (jkR p y1 y2 (900 + (n + 1)))) ⟨g0, g1, g2, fun u a hu z => by
        obtain ⟨t1, t2, ys, t3, t4⟩ := g3 u a hu z
        exact ⟨t1, t2, ys, t3, by omega⟩⟩
      rw [List.set_comm _ _ (Ne.symm hij), List.set_set] at this
      exact ⟨_, this⟩
    rcases hnon u hu' with rfl | ⟨a, rfl⟩
    · refine ws_if (t := false) E5 (tp_rawNot C hselj hv (.inl ⟨rfl, rfl⟩) hdx hcdx) (fun h => nomatch h) fun _ G6 H6 E6 => ws_nil (ws_nil ?_)
      obtain ⟨Fs7, E7⟩ := hup E6
      exact ⟨_, _, _, E7, _, rfl, rfl⟩
    · refine ws_if (t := true) E5 (tp_rawNot C hselj hv (.inr ⟨⟨a, rfl⟩, rfl⟩) hdx hcdx) (fun _ G6 H6 E6 => ?_) (fun h => nomatch h)
      refine ws_appRaw (i := i) (j := j) C E6 hselj hseli (hu'.imp id id) (by omega) hv rfl (fun G7 H7 Fs7 E7 => ?_) hb hline hdx hcdx
      rw [List.set_comm _ _ (Ne.symm hij), List.set_set] at E7
      exact ws_nil (ws_nil ⟨_, _, _, E7, _, rfl, rfl⟩)
  · subst e'
    have hil := (List.getElem?_eq_some_iff.mp hs.k).1
    have hseli : ((Γ.set i (.res (.ref l) (jkR p y1 y2 (900 + 2)))).set j k')[i]? = some (.res (.ref l) (jkR p y1 y2 (900 + 2))) := by
      rw [List.getElem?_set_ne (Ne.symm hij), List.getElem?_set_self hil]
    have E6 := E'.adopt hseli (k' := .un) (P := fun _ => False) (fun _ z => z) (fun _ z => z.elim)
    rw [List.set_comm _ _ (Ne.symm hij), List.set_set] at E6
    exact q k' σ' G' H' _ hk' E6
end
end Rn

namespace Rn
open PySem PySem.Spec PyProof.Rows L2
/-! ## texts -/
def numS (n : Int) : Str := Str.ofString (toString n)
section
variable {X : Cx} {M : Md} {F : Fr} {N : List Str} {sc scope : Scope} {kk : Nat} {Γ Γ1 Γ' : List Kd} {e a b c elt src : Expr} {es ifs : List Expr} {rest body : List Stmt} {D : Ends} {σ : L2.St} {G H : Hp} {Fs : Nat → Addr → Prop} {d da db : PyData} {ds : List PyData} {p pos px py pa pc pt : Pos} {x y m : Str} {i j n : Nat} {k k2 : Kd} {v u : V}
theorem RpL.strs (G : Hp) : ∀ ss : List Str, RpL G (ss.map V.str) (ss.map .str)
  | [] => .nil
  | s :: r => .cons .str (RpL.strs G r)
theorem ep_strI {n : Int} (C : Cok X M F N sc kk) (hm : M.mg "str" = none) (ha : EP X F Γ a (.int n)) (h0 : n.natAbs.log2 < 1920) (hg : sc.names.lookup ("str" : Str) = some .globalImplicit := by decide +kernel) (pl : plainE a = true := by rfl) : EP X F Γ (.Call (.Name "str" p) [a] [] pos) (.str (numS n)) := fun σ G H Fs E Q q => by
  refine ⟨_, pe_callTy call_str_int (gl_of C hg) (C.mgn hm) (by decide +kernel) (pa_cons pe_w pa_nil (star_plain pl _ _)) (he := star_plain pl _ _), ?_⟩
  refine ha σ G H Fs E _ fun v G1 H1 w1 r1 => ?_
  obtain rfl := r1.int_inv
  exact ⟨n, rfl, h0, q _ _ _ w1 .str⟩
theorem ep_join {s : Str} {ys : List Str} (ha : EP X F Γ a (.str s)) (hb : LP X F Γ e (ys.map .str)) (hz : (ys.map (·.length)).sum + ys.length * s.length ≤ 16777216) (hs : starEach [e] X.env = [(false, eval e X.env)] := by rfl) (hbase : attributeBase a "join" X.env (eval a X.env) = eval a X.env := by rfl) (hline : (pa.endLine == pos.line) = true := by rfl) :
    EP X F Γ (.Call (.Attribute a "join" pa) [e] [] pos) (.str (Txt.join s ys)) := fun σ G H Fs E Q q => by
  refine ⟨_, pe_join pe_w pe_w hs hbase hline, ?_⟩
  refine ha σ G H Fs E _ fun v G1 H1 w1 r1 => ?_
  obtain rfl := r1.str_inv
  refine ⟨⟨_, rfl⟩, hb σ G1 H1 Fs (E.grow w1) _ fun p vs G2 H2 w2 h2 hc r2 => ?_⟩
  obtain rfl := r2.strs_inv
  exact ⟨s, p, ys, rfl, rfl, .inl (.inl (.inl h2)), hz, q _ _ _ (w1.trans w2) .str⟩
theorem np_split {s t : Str} (ha : EP X F Γ a (.str s)) (hb : EP X F Γ e (.str t)) (ht : (t.length == 0) = false) (hz : s.length ≤ 1000) (hl : (Txt.split s t).length ≤ cap) (hs : starEach [e] X.env = [(false, eval e X.env)] := by rfl) (hbase : attributeBase a "split" X.env (eval a X.env) = eval a X.env := by rfl) (hline : (pa.endLine == pos.line) = true := by rfl) :
    NP X F Γ (.Call (.Attribute a "split" pa) [e] [] pos) ((Txt.split s t).map .str) := fun σ G H Fs E Q q => by
  refine ⟨_, pe_split pe_w pe_w hs hbase hline, ?_⟩
  refine ha σ G H Fs E _ fun v G1 H1 w1 r1 => ?_
  obtain rfl := r1.str_inv
  refine ⟨⟨_, rfl⟩, hb σ G1 H1 Fs (E.grow w1) _ fun v2 G2 H2 w2 r2 => ?_⟩
  obtain rfl := r2.str_inv
  have w := w1.trans w2
  refine ⟨s, t, rfl, rfl, ht, by rw [sizeLine_eq]; omega, fun p hp => ?_⟩
  exact q p _ G2 _ (w.trans (.raw w.s hp)) (w.h.none hp) (w.s.none hp) upd_same (by rw [List.length_map]; exact hl) (.strs _ _)
theorem do_addS {s t : Str} (h : s.length + t.length ≤ 100000) : DOp X (binaryOp .Add) (.str s) (.str t) (.str (s ++ t)) := fun G H x y e rx ry Q q => by
  obtain rfl := rx.str_inv
  obtain rfl := ry.str_inv
  exact ⟨_, op_add_str, s, t, rfl, rfl, by rw [sizeLine_eq]; omega, q _ _ _ (.refl e) .str⟩
theorem ep_slS {s : Str} {lo hi : Option Expr} {l u : Option Int} {p2 : Pos} (ha : EP X F Γ a (.str s)) (hl : OP X F Γ lo l) (hu : OP X F Γ hi u) (hz : s.length ≤ 100000) : EP X F Γ (.Subscript a (.Slice lo hi none p2) pos) (.str (cutS s l u)) := fun σ G H Fs E Q q => by
  have Wo : ∀ (e : Option Expr), PO X e (wO X e) := fun e => ⟨fun pins s σ H Q I h => by obtain ⟨t, p, q⟩ := h; exact p.run pins s σ H Q I q⟩
  refine ⟨_, pe_slice sl_str pe_w (Wo lo) (Wo hi), ?_⟩
  refine ha σ G H Fs E _ fun v G1 H1 w1 r1 => ?_
  obtain rfl := r1.str_inv
  refine hl σ G1 H1 Fs (E.grow w1) _ fun G2 H2 w2 => hu σ G2 H2 Fs ((E.grow w1).grow w2) _ fun G3 H3 w3 => ?_
  exact ⟨s, rfl, by rw [sizeLine_eq]; omega, q _ _ _ ((w1.trans w2).trans w3) .str⟩
theorem ep_intS {s : Str} {n : Int} (C : Cok X M F N sc kk) (hm : M.mg "int" = none) (ha : EP X F Γ a (.str s)) (h0 : PySem.intText? s = some n) (h1 : s.length ≤ 640) (hg : sc.names.lookup ("int" : Str) = some .globalImplicit := by decide +kernel) (pl : plainE a = true := by rfl) : EP X F Γ (.Call (.Name "int" p) [a] [] pos) (.int n) := fun σ G H Fs E Q q => by
  refine ⟨_, pe_callTy call_int_str (gl_of C hg) (C.mgn hm) (by decide +kernel) (pa_cons pe_w pa_nil (star_plain pl _ _)) (he := star_plain pl _ _), ?_⟩
  refine ha σ G H Fs E _ fun v G1 H1 w1 r1 => ?_
  obtain rfl := r1.str_inv
  exact ⟨s, n, rfl, h0, h1, q _ _ _ w1 .int⟩
theorem ep_lenStr {s : Str} (C : Cok X M F N sc kk) (hm : M.mg "len" = none) (ha : EP X F Γ a (.str s)) (h1 : s.length ≤ 100000) (hg : sc.names.lookup ("len" : Str) = some .globalImplicit := by decide +kernel) (pl : plainE a = true := by rfl) : EP X F Γ (.Call (.Name "len" p) [a] [] pos) (.int s.length) := fun σ G H Fs E Q q => by
  refine ⟨_, pe_callB call_len_str (gl_of C hg) (C.mgn hm) PySem.boot_len (pa_cons pe_w pa_nil (star_plain pl _ _)) (he := star_plain pl _ _), ?_⟩
  refine ha σ G H Fs E _ fun v G1 H1 w1 r1 => ?_
  obtain rfl := r1.str_inv
  exact ⟨s, rfl, by rw [sizeLine_eq]; omega, q _ _ _ w1 .int⟩
/-- for x in (a text): a sign at a time -/
def signS (c : Nat) : Str := ⟨#[c]⟩
theorem cp_str {fE : Nat → PyData} {z : Str} (C : Cok X M F N sc kk) (hx : Sel N Γ x i k) (hd : k.dry = true) (hs : EP X F Γ src (.str z)) (hz : z.cps.size ≤ 1000) (ok : blkC N sc scope [(x, i)] = true) (hl : Loc (relS scope sc) x) (hf : (relS scope sc).names.lookup x = some .local ∨ (scope.names.lookup x == some .cell) = true)
    (hE : ∀ c ∈ z.cps.toList, ∀ s H0 C0 cl fp, Cok (Xblk X scope s H0 C0 cl fp) M F N (relS scope sc) kk → EP (Xblk X scope s H0 C0 cl fp) F (Γ.set i (.val (.str (signS c)))) elt (fE c)) :
    CP X F Γ elt (.Name x px) src [] scope (z.cps.toList.map fE) := fun σ G H Fs E Q q => by
  refine ⟨_, gName i, tSrc X scope [], eSrc X scope elt, [(x, i)], pi_str pe_w, by rw [C.hN, C.hs]; exact blkOk_by ok, fun s H C0 cl fp => ?_, fun s H C0 cl fp => ⟨fun pins s1 σ H5 Q I h => ?_⟩, fun s H C0 cl fp => ⟨fun pins s1 σ H5 Q I h => ?_⟩, ?_⟩
  · have C' := C.blk (scope := scope) (s := s) (H := H) (C0 := C0) (cl := cl) (fp := fp)
    refine pg_name (by rw [C'.hN]; exact C'.nd) (by rw [C'.hN]; exact hx.n) (by rw [C'.hs]; exact hl) ?_
    rcases hf with z | z
    · exact .inr (by rw [C'.hs]; exact z)
    · exact .inl z
  · obtain ⟨t, p1, p2⟩ := h s H C0 cl fp
    exact p1.run pins s1 σ _ Q I p2
  · exact pe_w.run pins s1 σ _ Q I (h s H C0 cl fp)
  · refine hs σ G H Fs E _ fun v G1 H1 w1 r1 => ?_
    obtain rfl := r1.str_inv
    refine ⟨z, rfl, fun D hD => ?_⟩
    have E1 := E.grow w1
    refine lc_it walk_str (fun j H' => ∃ G', Lcs G1 H1 D ((z.cps.toList.take j).map fE) G' H') ⟨G1, Lcs.start w1.s hD⟩ (fun _ _ _ _ => trivial) (fun j v H' H'' hlt ⟨G', L⟩ hy => ?_) fun H' ⟨G', L⟩ => ?_
    · obtain ⟨rfl, c, hc, rfl⟩ := hy
      have hc' : z.cps.toList[j]? = some c := by rw [Array.getElem?_toList]; exact hc
      refine lc_turn (G := G) (H := H) (y := c) fE (fun _ => true) hx hd E1 hD L (dv := .str (signS c)) .str ?_ (fun s H0 C0 cl fp => tsp_nil) (fun _ s H0 C0 cl fp => hE c (List.mem_of_getElem? hc') s H0 C0 cl fp C.blk) (fun _ G2 H2 L2 => ⟨G2, ?_⟩) (fun z => nomatch z)
      · rw [List.length_map, List.length_take, Array.length_toList]; unfold cap; omega
      · rw [List.take_add_one, hc', List.map_append]; exact L2
    · rw [List.take_of_length_le (by rw [Array.length_toList]; exact Nat.le_refl _)] at L
      obtain ⟨ws, h2, r2⟩ := L.l
      exact q D ws G' H' (w1.trans L.w) (w1.h.none hD) L.d h2 (by rw [List.length_map, Array.length_toList]; unfold cap; omega) r2
end
end Rn

namespace Rn
open PySem PySem.Spec PyProof.Rows L2
/-! ## y = {.. for ..} -/
theorem sw_trueD {kx vx : Expr} {gs : List Comprehension} {scope : Scope} {pos py : Pos} {y : Str} {l : Nat} {env : PySem.Env} (hk : env.scope.kind = .function) (hy : env.scope.names.lookup y = some .local) (hl : (py.line == pos.line) = true)
    (ha : (scope.names.any fun (n, k) => n == y && (k == .local || k == .cell)) = false) : swapsWith (.DictComp kx vx gs scope pos) (some (.Name y py)) l env = pure true := by
  have ky : env.kindOf y = some .local := hy
  have hb : env.blockKind = .function := by unfold PySem.Env.blockKind; rw [hk]; rfl
  unfold swapsWith
  simp only [hb, ky, ha, Expr.pos, hl]
  rfl
theorem sw_cellD {kx vx : Expr} {scope : Scope} {pos : Pos} {y : Str} {gs : List Comprehension} {py : Pos} {l : Nat} {env : PySem.Env} (hy : env.scope.names.lookup y = some .cell) : swapsWith (.DictComp kx vx gs scope pos) (some (.Name y py)) l env = pure false := by
  have ky : env.kindOf y = some .cell := hy
  unfold swapsWith
  simp only [ky]
  have z : (some NameKind.cell == some NameKind.local) = false := rfl
  rw [z, Bool.and_false, Bool.false_and, Bool.false_and]
theorem ps_setDc {X : Cx} {i : Nat} {y : Str} {py : Pos} {kx vx tg iter : Expr} {ifs : List Expr} {scope : Scope} {own : List (Str × Nat)} {pos spos : Pos} {wi : TI} {g : TG} {tt : TT} {tk tv : TE} (hc : X.calm = true) (hN : X.N.Nodup) (hy : X.N[i]? = some y) (hyl : X.env.scope.names.lookup y = some .local)
    (hsw : swapsWith (.DictComp kx vx [⟨tg, iter, ifs, 0⟩] scope pos) (some (.Name y py)) spos.line X.env = pure true) (hi : PI X tg iter wi) (ok : BlkOk X.N X.env.scope scope own)
    (hg : ∀ (s : Shared) (H : Hp) (C : Addr) (cl : List (Str × Addr)) (fp : List Addr), PG (X.blk s H scope (compEnvC scope cl C X.env) fp) tg g) (ht : ∀ (s : Shared) (H : Hp) (C : Addr) (cl : List (Str × Addr)) (fp : List Addr), PTs (X.blk s H scope (compEnvC scope cl C X.env) fp) ifs tt)
    (hk : ∀ (s : Shared) (H : Hp) (C : Addr) (cl : List (Str × Addr)) (fp : List Addr), PE (X.blk s H scope (compEnvC scope cl C X.env) fp) kx tk)
    (he : ∀ (s : Shared) (H : Hp) (C : Addr) (cl : List (Str × Addr)) (fp : List Addr), PE (X.blk s H scope (compEnvC scope cl C X.env) fp) vx tv) (hs : ∀ x, foldedSetIterable iter X.env x = pure x) :
    PS X (.Assign [.Name y py] (.DictComp kx vx [⟨tg, iter, ifs, 0⟩] scope pos) spos) (tAsg (tDc wi g tt tk tv (own.map (·.2))) (gName i)) := by
  refine ⟨fun pins s σ H D I h => ?_⟩
  rw [exec_Assign_Name_used _ _ _ _ hsw]
  refine wpAny_bind (wpAny_standAt (wpAny_bind ?_))
  show wpAny _ X.A (do let _ ← comprehension (.DictComp kx vx [⟨tg, iter, ifs, 0⟩] scope pos) scope X.env (firstIterPos [⟨tg, iter, ifs, 0⟩] pos) newDict false (eval iter X.env) (some (assign (.Name y py) X.env))) _ _ s
  have h : tDc wi g tt tk tv (own.map (·.2)) σ H (fun x H1 => gName i x σ H1 D.nx) := h
  refine wpAny_bind (thn (dc_core (Qf := fun _ s' => SP X pins D .next s') hc hN I hi ok hg ht hk he hs h fun L C s' m H' I' q hn f => ?_) fun _ s' hq => wpAny_pure (wpAny_pure hq))
  show wpAny _ _ (assign (.Name y py) X.env (.ref L)) _ _ _
  refine wpAny_assign_Name (store_ok2 (v := V.ref L) I' hN hy (.inl hyl) rfl (fun s2 I2 ⟨a, sb, ha⟩ => ?_) (.inr hyl))
  obtain ⟨f0, f1, f2, f3, f4, f5⟩ := f
  have haC : C ≠ a := by
    rcases ha with z | z
    · rw [z]; exact f1
    · exact fun e => f4 y a z e.symm
  refine ⟨m, hn.sameBut sb haC, fun h3 sb3 => ?_⟩
  exact ⟨_, H', I2.turned (t' := s2.toks) (fun b o hb e => (sb3.2 b hb).trans e) f0 f1 f3 f4 f5, q⟩
/-! ## a new dict with texts as keys -/
def esS (kvs : List (Str × Int)) : List (Key × V) := kvs.map fun p => (Sum.inr p.1, V.int p.2)
def slook (kvs : List (Str × Int)) (s : Str) : Option Int := (kvs.find? fun p => decide (p.1 = s)).map (·.2)
theorem slook_val (kvs : List (Str × Int)) (s : Str) : valV (esS kvs) (Sum.inr s) = (slook kvs s).map V.int := by
  induction kvs with
  | nil => rfl
  | cons p r ih =>
    by_cases e : p.1 = s
    · rw [show esS (p :: r) = (Sum.inr p.1, V.int p.2) :: esS r from rfl, valV_pos (by rw [e])]
      unfold slook
      rw [List.find?_cons, decide_eq_true e]; rfl
    · rw [show esS (p :: r) = (Sum.inr p.1, V.int p.2) :: esS r from rfl, valV_neg (fun z => e (Sum.inr.inj z)), ih]
      unfold slook
      rw [List.find?_cons, decide_eq_false e]
def dcS (kvs : List (Str × Int)) : Rs where
  at_ := fun G H v P => ∃ D, v = .ref D ∧ H D = some (.dK (esS kvs)) ∧ ∀ a, P a ↔ a = D
  loc := fun ⟨D, h1, h2, h3⟩ g e => ⟨D, h1, (e D ((h3 D).mpr rfl)).trans h2, h3⟩
structure Lcd (G H : Hp) (D : Addr) (kvs : List (Str × Int)) (G1 H1 : Hp) : Prop where
  w : Grow G H G1 H1
  d : G1 D = none
  l : H1 D = some (.dK (esS kvs))
theorem Lcd.start {G H : Hp} (e : Ex G H) {D : Addr} (hD : H D = none) : Lcd G H D [] G (upd H D (.dK [])) := ⟨.raw e hD, e.none hD, upd_same⟩
theorem Lcd.step {G H G1 H1 G2 H2 : Hp} {D : Addr} {kvs : List (Str × Int)} (L : Lcd G H D kvs G1 H1) (w : Grow G1 H1 G2 H2) : Lcd G H D kvs G2 H2 :=
  ⟨L.w.trans w, (w.o D (by rw [L.l]; exact fun z => nomatch z)).trans L.d, w.h _ _ L.l⟩
theorem Lcd.push {G H G1 H1 : Hp} {D : Addr} {kvs : List (Str × Int)} {s : Str} {n : Int} (hD : H D = none) (L : Lcd G H D kvs G1 H1) (hn : slook kvs s = none) : Lcd G H D (kvs ++ [(s, n)]) G1 (upd H1 D (.dK (putK (esS kvs) (Sum.inr s) (.int n)))) := by
  refine ⟨⟨L.w.g, fun a u q => ?_, fun a u q => ?_, L.w.o⟩, L.d, ?_⟩
  · rw [upd_ne (ne_of_none q L.d)]; exact L.w.s _ _ q
  · rw [upd_ne (ne_of_none q hD)]; exact L.w.h _ _ q
  · rw [upd_same, putK_new _ (by rw [slook_val, hn]; rfl)]
    unfold esS
    rw [List.map_append]; rfl
section
variable {J : It} {n : Nat} {Gp : Hp → Prop} {Y : Nat → Hp → V → Hp → Prop}
theorem dc_it (w : Walk J n Gp Y) {g : TG} {tt : TT} {tk tv : TE} {vs : List Nat} {σ : L2.St} {H1 : Hp} {D : Addr} {Qd : Hp → Prop} (Pv : Nat → Hp → Prop) (h0 : Pv 0 (upd H1 D (.dK []))) (hG : ∀ i H, i ≤ n → Pv i H → Gp H)
    (hs : ∀ i x H H', i < n → Pv i H → Y i H x H' → g x (wipe σ vs) H' fun σ2 H2 => wipe σ2 vs = wipe σ vs ∧ tt σ2 H2 fun b H3 =>
      if b = true then tk σ2 H3 fun y H4 => tv σ2 H4 fun z H5 => ∃ kvs k, y = kV k ∧ H5 D = some (.dK kvs) ∧ kvs.length < sizeLine ∧ Pv (i + 1) (upd H5 D (.dK (putK kvs k z))) else Pv (i + 1) H3) (hd : ∀ H, Pv n H → Qd H) :
    ∃ W : Nat → Nat → Hp → Prop, (∃ m, W 0 m (upd H1 D (.dK []))) ∧ ∀ i m H, W i m H →
      (J.stop i H ∧ Qd H) ∨ (J.go i H ∧ ∃ Nx : Hp → Prop, (∀ H', Nx H' → ∃ m', m' < m ∧ W (i + 1) m' H') ∧ ∀ x H', J.yld i H x H' → g x (wipe σ vs) H' fun σ2 H2 => wipe σ2 vs = wipe σ vs ∧ tt σ2 H2 fun b H3 =>
        if b = true then tk σ2 H3 fun y H4 => tv σ2 H4 fun z H5 => ∃ kvs k, y = kV k ∧ H5 D = some (.dK kvs) ∧ kvs.length < sizeLine ∧ Nx (upd H5 D (.dK (putK kvs k z))) else Nx H3) := by
  refine ⟨fun i m H => m = n - i ∧ i ≤ n ∧ Pv i H, ⟨n, by simp, Nat.zero_le _, h0⟩, ?_⟩
  rintro i m H ⟨rfl, hi, p⟩
  have q := hG i H hi p
  by_cases hlt : i < n
  · exact .inr ⟨w.goes i H hlt q, Pv (i + 1), fun H' p' => ⟨n - (i + 1), by omega, rfl, hlt, p'⟩, fun x H' y => hs i x H H' hlt p (w.yields i H x H' hlt q y)⟩
  · have e : i = n := by omega
    subst e
    exact .inl ⟨w.stops H q, hd H p⟩
end
section
variable {X : Cx} {M : Md} {F : Fr} {N : List Str} {sc scope : Scope} {kk : Nat} {Γ Γ1 Γ' : List Kd} {e a b c kx vx src : Expr} {D : Ends} {σ : L2.St} {G H : Hp} {Fs : Nat → Addr → Prop} {d : PyData} {ds : List PyData} {p pos px py pl2 : Pos} {x y : Str} {i j n : Nat} {k k2 : Kd} {v u : V} {kvs : List (Str × Int)}
/-- {kx: vx for x in range(m)} -/
theorem me_dcR {m : Int} {ky : Nat → Str} {pr : Pos} (C : Cok X M F N sc kk) (hm : M.mg "range" = none) (hx : Sel N Γ x i k) (hd : k.dry = true) (hs : EP X F Γ e (.int m)) (hn : m ≤ 1000) (hn0 : 0 ≤ m) (ok : blkC N sc scope [(x, i)] = true) (hl : Loc (relS scope sc) x) (hf : (relS scope sc).names.lookup x = some .local ∨ (scope.names.lookup x == some .cell) = true)
    (hg : sc.names.lookup ("range" : Str) = some .globalImplicit) (hpl : plainE e = true) (hky : ∀ j j', j < m.toNat → j' < m.toNat → ky j = ky j' → j = j')
    (hK : ∀ j, j < m.toNat → ∀ s H0 C0 cl fp, Cok (Xblk X scope s H0 C0 cl fp) M F N (relS scope sc) kk → EP (Xblk X scope s H0 C0 cl fp) F (Γ.set i (.val (.int (j : Int)))) kx (.str (ky j)))
    (hV : ∀ j, j < m.toNat → ∀ s H0 C0 cl fp, Cok (Xblk X scope s H0 C0 cl fp) M F N (relS scope sc) kk → EP (Xblk X scope s H0 C0 cl fp) F (Γ.set i (.val (.int (j : Int)))) vx (.int (j : Int)))
    (hs2 : ∀ z, foldedSetIterable (.Call (.Name "range" pr) [e] [] pos) X.env z = pure z := by intro _; rfl) :
    ME X F Γ (.DictComp kx vx [⟨.Name x px, .Call (.Name "range" pr) [e] [] pos, [], 0⟩] scope pl2) (fun v => .res v (dcS ((List.range m.toNat).map fun (j : Nat) => (ky j, (j : Int))))) Γ := fun σ G H Fs E Q q => by
  have hno : ∀ j, j < m.toNat → slook ((List.range j).map fun (j : Nat) => (ky j, (j : Int))) (ky j) = none := fun j hj => by
    unfold slook
    rw [Option.map_eq_none_iff, List.find?_eq_none]
    intro p hp z
    obtain ⟨j', hj', rfl⟩ := List.mem_map.mp hp
    rw [List.mem_range] at hj'
    have := hky j' j (by omega) hj (of_decide_eq_true z)
    omega
  refine ⟨_, pe_dc (wi := _) (g := gName i) (tt := tSrc X scope []) (tk := eSrc X scope kx) (tv := eSrc X scope vx) (own := [(x, i)]) C.calm (by rw [C.hN]; exact C.nd) (pi_range1 (gl_of C hg) (C.mgn hm) (pa_cons pe_w pa_nil (star_plain hpl _ _)) (by rw [star_plain hpl]; rfl)) (by rw [C.hN, C.hs]; exact blkOk_by ok) (fun s H C0 cl fp => ?_) (fun s H C0 cl fp => ⟨fun pins s1 σ H5 Q I h => ?_⟩) (fun s H C0 cl fp => ⟨fun pins s1 σ H5 Q I h => ?_⟩) (fun s H C0 cl fp => ⟨fun pins s1 σ H5 Q I h => ?_⟩) hs2, ?_⟩
  · have C' := C.blk (scope := scope) (s := s) (H := H) (C0 := C0) (cl := cl) (fp := fp)
    refine pg_name (by rw [C'.hN]; exact C'.nd) (by rw [C'.hN]; exact hx.n) (by rw [C'.hs]; exact hl) ?_
    rcases hf with z | z
    · exact .inr (by rw [C'.hs]; exact z)
    · exact .inl z
  · obtain ⟨t, p1, p2⟩ := h s H C0 cl fp
    exact p1.run pins s1 σ _ Q I p2
  · exact pe_w.run pins s1 σ _ Q I (h s H C0 cl fp)
  · exact pe_w.run pins s1 σ _ Q I (h s H C0 cl fp)
  · refine hs σ G H Fs E _ fun v G1 H1 w1 r1 => ?_
    obtain rfl := r1.int_inv
    refine ⟨m, rfl, by omega, by omega, fun D hD => ?_⟩
    have E1 := E.grow w1
    refine dc_it walk_range (fun j H' => ∃ G', Lcd G1 H1 D ((List.range j).map fun (j : Nat) => (ky j, (j : Int))) G' H') ⟨G1, Lcd.start w1.s hD⟩ (fun _ _ _ _ => trivial) (fun j v H' H'' hj ⟨G', L⟩ hy => ?_) fun H' ⟨G', L⟩ => ?_
    · obtain ⟨rfl, rfl⟩ := hy
      have ew : (wipe σ (List.map (fun x => x.2) [(x, i)])).set i (some (V.int (0 + (j : Int)))) = σ.set i (some (V.int (0 + (j : Int)))) := set_set_some
      unfold gName
      dsimp only
      rw [ew]
      refine ⟨wipe_set, fun s H0 C0 cl fp => ?_⟩
      have E2 : Env F G' H'' (σ.set i (some (V.int (0 + (j : Int))))) (Γ.set i (.val (.int (j : Int)))) Fs := (E1.grow L.w).putD hx.k hd (kat_val (by rw [Int.zero_add]; exact .int))
      refine ⟨tYes, pts_nil, ?_⟩
      unfold tYes
      dsimp only
      rw [if_pos rfl]
      intro s H0 C0 cl fp
      refine hK j hj s H0 C0 cl fp C.blk _ G' H'' Fs E2 _ fun v3 G3 H3 w3 r3 => ?_
      obtain rfl := r3.str_inv
      intro s H0 C0 cl fp
      refine hV j hj s H0 C0 cl fp C.blk _ G3 H3 Fs (E2.grow w3) _ fun v4 G4 H4 w4 r4 => ?_
      obtain rfl := r4.int_inv
      have L2 := (L.step w3).step w4
      refine ⟨_, Sum.inr (ky j), rfl, L2.l, ?_, G4, ?_⟩
      · unfold esS
        rw [List.length_map, List.length_map, List.length_range, sizeLine_eq]; omega
      · have := L2.push (n := (j : Int)) hD (hno j hj)
        rw [List.range_succ, List.map_append]
        exact this
    · refine q (.ref D) G' H' _ ((E1.grow L.w).more (k := .res (.ref D) (dcS ((List.range m.toNat).map fun (j : Nat) => (ky j, (j : Int))))) (x := some (.ref D)) (P := fun a => a = D) ⟨rfl, D, rfl, L.l, fun _ => .rfl⟩ fun a ha => ?_)
      subst ha
      exact ⟨E1.bh.none hD, L.d, (by rw [L.l]; exact fun z => nomatch z), fun j z => (E1.fp j _ z).2.2.1 hD⟩
/-- y = {kx: vx for x in range(m)} -/
theorem ws_dcR {iy : Nat} {ky0 : Kd} {y : Str} {pyy pos2 : Pos} {rest : List Stmt} {Γ2 : V → List Kd} {m : Int} {ky : Nat → Str} {pr : Pos} (C : Cok X M F N sc kk) (hm : M.mg "range" = none) (hx : Sel N Γ x i k) (hd : k.dry = true) (hse : EP X F Γ e (.int m)) (hn : m ≤ 1000) (hn0 : 0 ≤ m) (ok : blkC N sc scope [(x, i)] = true) (hl : Loc (relS scope sc) x) (hf : (relS scope sc).names.lookup x = some .local ∨ (scope.names.lookup x == some .cell) = true)
    (hg : sc.names.lookup ("range" : Str) = some .globalImplicit) (hpl : plainE e = true) (hky : ∀ j j', j < m.toNat → j' < m.toNat → ky j = ky j' → j = j')
    (hK : ∀ j, j < m.toNat → ∀ s H0 C0 cl fp, Cok (Xblk X scope s H0 C0 cl fp) M F N (relS scope sc) kk → EP (Xblk X scope s H0 C0 cl fp) F (Γ.set i (.val (.int (j : Int)))) kx (.str (ky j)))
    (hV : ∀ j, j < m.toNat → ∀ s H0 C0 cl fp, Cok (Xblk X scope s H0 C0 cl fp) M F N (relS scope sc) kk → EP (Xblk X scope s H0 C0 cl fp) F (Γ.set i (.val (.int (j : Int)))) vx (.int (j : Int)))
    (hs2 : ∀ z, foldedSetIterable (.Call (.Name "range" pr) [e] [] pos) X.env z = pure z) (E : Env F G H σ Γ Fs) (hy : Sel N Γ y iy ky0) (hyl : sc.names.lookup y = some .local) (hkf : sc.kind = .function) (hln : (pyy.line == pl2.line) = true) (hny : (scope.names.any fun (n, k) => n == y && (k == .local || k == .cell)) = false)
    (hΓ : ∀ v, Γ.set iy (.res v (dcS ((List.range m.toNat).map fun (j : Nat) => (ky j, (j : Int))))) = Γ2 v) (q : ∀ v σ' G' H' Fs', Env F G' H' σ' (Γ2 v) Fs' → wSs X rest D σ' H') :
    wSs X (.Assign [.Name y pyy] (.DictComp kx vx [⟨.Name x px, .Call (.Name "range" pr) [e] [] pos, [], 0⟩] scope pl2) pos2 :: rest) D σ H := by
  have hno : ∀ j, j < m.toNat → slook ((List.range j).map fun (j : Nat) => (ky j, (j : Int))) (ky j) = none := fun j hj => by
    unfold slook
    rw [Option.map_eq_none_iff, List.find?_eq_none]
    intro p hp z
    obtain ⟨j', hj', rfl⟩ := List.mem_map.mp hp
    rw [List.mem_range] at hj'
    have := hky j' j (by omega) hj (of_decide_eq_true z)
    omega
  refine ws_cons ⟨_, ps_setDc (i := iy) (wi := _) (g := gName i) (tt := tSrc X scope []) (tk := eSrc X scope kx) (tv := eSrc X scope vx) (own := [(x, i)]) C.calm (by rw [C.hN]; exact C.nd) (by rw [C.hN]; exact hy.n) (by rw [C.hs]; exact hyl) (sw_trueD (by rw [C.hs]; exact hkf) (by rw [C.hs]; exact hyl) hln hny) (pi_range1 (gl_of C hg) (C.mgn hm) (pa_cons pe_w pa_nil (star_plain hpl _ _)) (by rw [star_plain hpl]; rfl)) (by rw [C.hN, C.hs]; exact blkOk_by ok) (fun s H C0 cl fp => ?_) (fun s H C0 cl fp => ⟨fun pins s1 σ H5 Q I h => ?_⟩) (fun s H C0 cl fp => ⟨fun pins s1 σ H5 Q I h => ?_⟩) (fun s H C0 cl fp => ⟨fun pins s1 σ H5 Q I h => ?_⟩) hs2, ?_⟩
  · have C' := C.blk (scope := scope) (s := s) (H := H) (C0 := C0) (cl := cl) (fp := fp)
    refine pg_name (by rw [C'.hN]; exact C'.nd) (by rw [C'.hN]; exact hx.n) (by rw [C'.hs]; exact hl) ?_
    rcases hf with z | z
    · exact .inr (by rw [C'.hs]; exact z)
    · exact .inl z
  · obtain ⟨t, p1, p2⟩ := h s H C0 cl fp
    exact p1.run pins s1 σ _ Q I p2
  · exact pe_w.run pins s1 σ _ Q I (h s H C0 cl fp)
  · exact pe_w.run pins s1 σ _ Q I (h s H C0 cl fp)
  · refine hse σ G H Fs E _ fun v G1 H1 w1 r1 => ?_
    obtain rfl := r1.int_inv
    refine ⟨m, rfl, by omega, by omega, fun D0 hD => ?_⟩
    have E1 := E.grow w1
    refine dc_it walk_range (fun j H' => ∃ G', Lcd G1 H1 D0 ((List.range j).map fun (j : Nat) => (ky j, (j : Int))) G' H') ⟨G1, Lcd.start w1.s hD⟩ (fun _ _ _ _ => trivial) (fun j v H' H'' hj ⟨G', L⟩ hy => ?_) fun H' ⟨G', L⟩ => ?_
    · obtain ⟨rfl, rfl⟩ := hy
      have ew : (wipe σ (List.map (fun x => x.2) [(x, i)])).set i (some (V.int (0 + (j : Int)))) = σ.set i (some (V.int (0 + (j : Int)))) := set_set_some
      unfold gName
      dsimp only
      rw [ew]
      refine ⟨wipe_set, fun s H0 C0 cl fp => ?_⟩
      have E2 : Env F G' H'' (σ.set i (some (V.int (0 + (j : Int))))) (Γ.set i (.val (.int (j : Int)))) Fs := (E1.grow L.w).putD hx.k hd (kat_val (by rw [Int.zero_add]; exact .int))
      refine ⟨tYes, pts_nil, ?_⟩
      unfold tYes
      dsimp only
      rw [if_pos rfl]
      intro s H0 C0 cl fp
      refine hK j hj s H0 C0 cl fp C.blk _ G' H'' Fs E2 _ fun v3 G3 H3 w3 r3 => ?_
      obtain rfl := r3.str_inv
      intro s H0 C0 cl fp
      refine hV j hj s H0 C0 cl fp C.blk _ G3 H3 Fs (E2.grow w3) _ fun v4 G4 H4 w4 r4 => ?_
      obtain rfl := r4.int_inv
      have L2 := (L.step w3).step w4
      refine ⟨_, Sum.inr (ky j), rfl, L2.l, ?_, G4, ?_⟩
      · unfold esS
        rw [List.length_map, List.length_map, List.length_range, sizeLine_eq]; omega
      · have := L2.push (n := (j : Int)) hD (hno j hj)
        rw [List.range_succ, List.map_append]
        exact this
    · have E9 := (E1.grow L.w).more (k := .res (.ref D0) (dcS ((List.range m.toNat).map fun (j : Nat) => (ky j, (j : Int))))) (x := some (.ref D0)) (P := fun a => a = D0) ⟨rfl, D0, rfl, L.l, fun _ => .rfl⟩ fun a ha => by
        subst ha
        exact ⟨E1.bh.none hD, L.d, (by rw [L.l]; exact fun z => nomatch z), fun j z => (E1.fp j _ z).2.2.1 hD⟩
      obtain ⟨Fs2, E10⟩ := E9.move (List.getElem?_eq_some_iff.mp hy.k).1
      rw [hΓ] at E10
      exact q _ _ G' H' Fs2 E10
/-- y = {.. for ..}, y read by comprehensions -/
theorem ws_setMD {Γ2 : V → List Kd} {rest : List Stmt} {o : V → Kd} {gs : List Comprehension} {px2 pos2 : Pos} {iy : Nat} {y : Str} (C : Cok X M F N sc kk) (B : Bok X) (E : Env F G H σ Γ Fs) (hx : Sel N Γ1 y iy k) (hl : sc.names.lookup y = some .cell) (h : ME X F Γ (.DictComp kx vx gs scope pos) o Γ1) (hΓ : ∀ v, Γ1.set iy (o v) = Γ2 v) (q : ∀ v σ' G' H' Fs', Env F G' H' σ' (Γ2 v) Fs' → wSs X rest D σ' H') :
    wSs X (.Assign [.Name y px2] (.DictComp kx vx gs scope pos) pos2 :: rest) D σ H := by
  refine ws_cons ⟨_, ps_set (by rw [C.hN]; exact C.nd) (by rw [C.hN]; exact hx.n) (C.loc (.inr hl)) pe_w (sw_cellD (by rw [C.hs]; exact hl)) (.inl (B.fn y)), ?_⟩
  refine h σ G H Fs E _ fun v G1 H1 Fs1 E1 => ?_
  obtain ⟨Fs2, E2⟩ := E1.move (List.getElem?_eq_some_iff.mp hx.k).1
  rw [hΓ v] at E2
  exact q v _ G1 H1 Fs2 E2
theorem ep_dgetS {s : Str} {n : Int} (C : Cok X M F N sc kk) (h : Sel N Γ x i (.res v (dcS kvs))) (hv : Vis sc x) (hi : EP X F Γ b (.str s)) (hl : slook kvs s = some n) (hs : NoSl b := by exact fun _ _ => rfl) (hd : (x == ("__debug__" : Str)) = false := by decide) (hcd : (x == ("__classdict__" : Str)) = false := by decide) : EP X F Γ (.Subscript (.Name x px) b pos) (.int n) := fun σ G H Fs E Q q => by
  refine ⟨_, pe_dget (hu_of C.room) pe_w pe_w hs, ?_⟩
  obtain ⟨h1, D, rfl, h2, _⟩ := E.sl i _ h.k
  refine w_name C h hv h1 ?_ hd hcd
  refine hi σ G H Fs E _ fun y G2 H2 w2 r2 => ?_
  obtain rfl := r2.str_inv
  have hu : valV (esS kvs) (Sum.inr s) = some (.int n) := by rw [slook_val, hl]; rfl
  exact ⟨D, .int n, rfl, by rw [← hu]; exact DGet.k (k := Sum.inr s) (w2.h _ _ h2), q _ _ _ w2 .int⟩
theorem ep_dinS {s : Str} (C : Cok X M F N sc kk) (h : Sel N Γ x i (.res v (dcS kvs))) (hv : Vis sc x) (hi : EP X F Γ a (.str s)) (hm : behindInMarks .In (.Name x px) = false := by rfl) (hd : (x == ("__debug__" : Str)) = false := by decide) (hcd : (x == ("__classdict__" : Str)) = false := by decide) : EP X F Γ (.Compare a [.In] [.Name x px] pos) (.bool (slook kvs s).isSome) := fun σ G H Fs E Q q => by
  refine ⟨_, pe_cmp (pc_din (hu_of C.room) pe_w pe_w) hm, hi σ G H Fs E _ fun y G1 H1 w1 r1 => ?_⟩
  obtain rfl := r1.str_inv
  obtain ⟨h1, D, rfl, h2, _⟩ := (E.grow w1).sl i _ h.k
  refine w_name C h hv h1 ?_ hd hcd
  refine ⟨D, _, rfl, DGet.k (k := Sum.inr s) h2, ?_⟩
  rw [slook_val, Option.isSome_map]
  exact q _ _ _ w1 .bl
/-- a text in a tuple of texts -/
theorem ep_inST {s : Str} {ss : List Str} (ha : EP X F Γ a (.str s)) (hb : EP X F Γ b (.tuple (ss.map .str))) (hm : behindInMarks .In b = false) : EP X F Γ (.Compare a [.In] [b] pos) (.bool (decide (s ∈ ss))) := fun σ G H Fs E Q q => by
  refine ⟨_, pe_cmpR op_in_seq pe_w pe_w hm, ?_⟩
  refine ha σ G H Fs E _ fun x G1 H1 w1 r1 => hb σ G1 H1 Fs (E.grow w1) _ fun y G2 H2 w2 r2 => ?_
  obtain rfl := r1.str_inv
  obtain ⟨p, vs, rfl, h2, hc, r3⟩ := r2.tup_inv
  obtain rfl := r3.strs_inv
  refine ⟨p, _, rfl, .inr (.inl (.inl (w2.s _ _ h2))), rfl, flat_strs, ?_⟩
  rw [if_neg Bool.false_ne_true, inV_strs]
  exact q _ _ _ (w1.trans w2) .bl
end
end Rn

namespace Rn
open PySem PySem.Spec PyProof.Rows L2
def isIntD : PyData → Bool
  | .int _ => true
  | _ => false
def cellAt (ns : List Int) (j : Int) : Int := if j < ns.length then ns.getD j.toNat 0 else 0
def mixI (c q n : Int) : Int := c * 48271 % q % n
def mixedM (c j : Int) : Int := (c + 7919 * j + 11) * 48271 % 2147483647
def mixedI (c j n : Int) : Int := mixedM c j * mixedM c j % 1000003 / 7 % n
def bitsI (c w : Int) : List Int := (List.range w.toNat).map fun (j : Nat) => mixedI c (j : Int) 2
def sumI (vs : List (List Int)) (w : Int) : List Int := (List.range w.toNat).map fun (j : Nat) => (vs.map fun v => v.getD ((j : Int)).toNat 0).sum % 2
def manyI (a : Int) : Int := [1 + mixI a 10079 7, 1 + mixI a 10079 7, 1 + mixI a 10091 24].getD (mixI a 10103 3).toNat 0
def wideI (b : Int) : Int := [1 + mixI b 10093 4, 1 + mixI b 10099 32].getD (mixI b 10111 2).toNat 0
def risesF (last n : Int) : List Int → Bool
  | [] => true
  | p :: r => if p ≤ last ∨ n ≤ p then false else risesF p n r
def valI (L : List (List Int)) (ps : List Int) : List Int := ps.foldl (fun t p => List.zipWith Builtin.bitXor t (L.getD p.toNat [])) (List.replicate (L.getD 0 []).length 0)
def drawSt (x0 : Int) : Nat → Int × List Int
  | 0 => (x0, [])
  | j + 1 => ((75 * (drawSt x0 j).1 + 74) % 65537, if (75 * (drawSt x0 j).1 + 74) % 65537 % 5 < 2 then (drawSt x0 j).2 ++ [(j : Int)] else (drawSt x0 j).2)
def drawI (n : Int) (m : Nat) : List Int := if (drawSt (48271 * (n + 1) % 65537) m).2 = [] then [n % (m : Int)] else (drawSt (48271 * (n + 1) % 65537) m).2
def setI (c n : Int) : List Int := if mixI c 10037 4 = 0 then [mixI c 10067 n] else if mixI c 10037 4 = 1 then rise [mixI c 10067 n, mixI c 10069 n] else ((List.range n.toNat).filter fun (j : Nat) => decide (mixedI c (40 + (j : Int)) 2 = 1)).map fun (j : Nat) => (j : Int)
end Rn

namespace Rn
open PySem PySem.Spec PyProof.Rows L2
def syI : List Int → List Int → List Int
  | [], ys => ys
  | xs, [] => xs
  | x :: xs, y :: ys => if x < y then x :: syI xs (y :: ys) else if y < x then y :: syI (x :: xs) ys else syI xs ys
termination_by xs ys => xs.length + ys.length
theorem getD_nat {xs : List Int} {h : Nat} (hh : h < xs.length) : xs.getD ((h : Int)).toNat 0 = xs[h] := by
  rw [Int.toNat_natCast, List.getD_eq_getElem?_getD, List.getElem?_eq_getElem hh]; rfl
theorem drop_cons {xs : List Int} {h : Nat} (hh : h < xs.length) : xs.drop h = xs[h] :: xs.drop (h + 1) := List.drop_eq_getElem_cons hh
theorem syI_nilr : ∀ xs : List Int, syI xs [] = xs
  | [] => by unfold syI; rfl
  | x :: xs => by unfold syI; rfl
theorem syI_nill (ys : List Int) : syI [] ys = ys := by unfold syI; rfl
theorem syI_lt {x y : Int} {xs ys : List Int} (h : x < y) : syI (x :: xs) (y :: ys) = x :: syI xs (y :: ys) := by rw [syI]; rw [if_pos h]
theorem syI_gt {x y : Int} {xs ys : List Int} (h : y < x) : syI (x :: xs) (y :: ys) = y :: syI (x :: xs) ys := by rw [syI]; rw [if_neg (by omega), if_pos h]
theorem syI_eq {x : Int} {xs ys : List Int} : syI (x :: xs) (x :: ys) = syI xs ys := by rw [syI]; rw [if_neg (by omega), if_neg (by omega)]
theorem syI_len : ∀ (xs ys : List Int), (syI xs ys).length ≤ xs.length + ys.length
  | [], ys => by rw [syI_nill]; simp
  | x :: xs, [] => by rw [syI_nilr]; simp
  | x :: xs, y :: ys => by
    rcases Int.lt_trichotomy x y with h | h | h
    · rw [syI_lt h]
      have := syI_len xs (y :: ys)
      simp only [List.length_cons] at this ⊢; omega
    · subst h
      rw [syI_eq]
      have := syI_len xs ys
      simp only [List.length_cons] at this ⊢; omega
    · rw [syI_gt h]
      have := syI_len (x :: xs) ys
      simp only [List.length_cons] at this ⊢; omega
termination_by xs ys => xs.length + ys.length
/-- in just one of both -/
theorem mem_syI : ∀ {xs ys : List Int}, Up xs → Up ys → ∀ k, k ∈ syI xs ys ↔ ¬ (k ∈ xs ↔ k ∈ ys)
  | [], ys, _, _, k => by rw [syI_nill]; simp
  | x :: xs, [], _, _, k => by rw [syI_nilr]; exact ⟨fun h z => (List.not_mem_nil (z.mp h)).elim, fun h => Classical.byContradiction fun z => h ⟨fun w => absurd w z, fun w => nomatch w⟩⟩
  | x :: xs, y :: ys, hx, hy, k => by
    have hx' := List.pairwise_cons.mp hx
    have hy' := List.pairwise_cons.mp hy
    rcases Int.lt_trichotomy x y with h | h | h
    · rw [syI_lt h, List.mem_cons, mem_syI hx'.2 hy k]
      have n1 : x ∉ xs := fun z => by have := hx'.1 x z; omega
      have n2 : x ∉ y :: ys := fun z => by
        rcases List.mem_cons.mp z with z | z
        · omega
        · have := hy'.1 x z; omega
      by_cases q : k = x
      · subst q; simp [n1, n2]
      · simp [q]
    · subst h
      rw [syI_eq, mem_syI hx'.2 hy'.2 k]
      have n1 : x ∉ xs := fun z => by have := hx'.1 x z; omega
      have n2 : x ∉ ys := fun z => by have := hy'.1 x z; omega
      by_cases q : k = x
      · subst q; simp [n1, n2]
      · simp [q]
    · rw [syI_gt h, List.mem_cons, mem_syI hx hy'.2 k]
      have n1 : y ∉ ys := fun z => by have := hy'.1 y z; omega
      have n2 : y ∉ x :: xs := fun z => by
        rcases List.mem_cons.mp z with z | z
        · omega
        · have := hx'.1 y z; omega
      by_cases q : k = y
      · subst q; simp [n1, n2]
      · simp [q]
termination_by xs ys => xs.length + ys.length
theorem up_syI : ∀ {xs ys : List Int}, Up xs → Up ys → Up (syI xs ys)
  | [], ys, _, hy => by rw [syI_nill]; exact hy
  | x :: xs, [], hx, _ => by rw [syI_nilr]; exact hx
  | x :: xs, y :: ys, hx, hy => by
    have hx' := List.pairwise_cons.mp hx
    have hy' := List.pairwise_cons.mp hy
    have sub : ∀ {us vs : List Int} {k}, Up us → Up vs → k ∈ syI us vs → k ∈ us ∨ k ∈ vs := fun {us vs k} h1 h2 h => by
      have := (mem_syI h1 h2 k).mp h
      by_cases z : k ∈ us
      · exact .inl z
      · by_cases w : k ∈ vs
        · exact .inr w
        · exact absurd (by simp [z, w]) this
    rcases Int.lt_trichotomy x y with h | h | h
    · rw [syI_lt h]
      refine List.pairwise_cons.mpr ⟨fun k hk => ?_, up_syI hx'.2 hy⟩
      rcases sub hx'.2 hy hk with z | z
      · exact hx'.1 k z
      · rcases List.mem_cons.mp z with z | z
        · omega
        · have := hy'.1 k z; omega
    · subst h
      rw [syI_eq]; exact up_syI hx'.2 hy'.2
    · rw [syI_gt h]
      refine List.pairwise_cons.mpr ⟨fun k hk => ?_, up_syI hx hy'.2⟩
      rcases sub hx hy'.2 hk with z | z
      · rcases List.mem_cons.mp z with z | z
        · omega
        · have := hx'.1 k z; omega
      · exact hy'.1 k z
termination_by xs ys => xs.length + ys.length
theorem risesF_cons {last n p : Int} {r : List Int} : risesF last n (p :: r) = if p ≤ last ∨ n ≤ p then false else risesF p n r := rfl
theorem risesF_iff {n : Int} : ∀ {ps : List Int} {last : Int}, risesF last n ps = true ↔ Up ps ∧ ∀ p ∈ ps, last < p ∧ p < n
  | [], _ => ⟨fun _ => ⟨.nil, fun _ h => nomatch h⟩, fun _ => rfl⟩
  | p :: r, last => by
    rw [risesF_cons]
    by_cases z : p ≤ last ∨ n ≤ p
    · rw [if_pos z]
      constructor
      · intro h; cases h
      · intro h; have := h.2 p List.mem_cons_self; omega
    · rw [if_neg z, risesF_iff (ps := r)]
      constructor
      · rintro ⟨h1, h2⟩
        refine ⟨List.pairwise_cons.mpr ⟨fun q hq => (h2 q hq).1, h1⟩, fun q hq => ?_⟩
        rcases List.mem_cons.mp hq with e | e
        · rw [e]; omega
        · have := h2 q e; omega
      · rintro ⟨h1, h2⟩
        have h1 := List.pairwise_cons.mp h1
        exact ⟨h1.2, fun q hq => ⟨h1.1 q hq, (h2 q (List.mem_cons_of_mem _ hq)).2⟩⟩
def Bits (w : Nat) (v : List Int) : Prop := v.length = w ∧ ∀ b ∈ v, b = 0 ∨ b = 1
theorem bx (a b : Int) (ha : a = 0 ∨ a = 1) (hb : b = 0 ∨ b = 1) : Builtin.bitXor a b = (a + b) % 2 := by
  rcases ha with rfl | rfl <;> rcases hb with rfl | rfl <;> decide +kernel
theorem bits_getD {w : Nat} {v : List Int} (h : Bits w v) (k : Nat) : v.getD k 0 = 0 ∨ v.getD k 0 = 1 := by
  rw [List.getD_eq_getElem?_getD]
  cases q : v[k]? with
  | none => exact .inl rfl
  | some b => exact h.2 b (List.mem_of_getElem? q)
theorem zero_bits (w : Nat) : Bits w (List.replicate w 0) := ⟨List.length_replicate, fun b hb => .inl (List.eq_of_mem_replicate hb)⟩
/-! ## sums over the field of two -/
def chi (S : List Int) (x : Int) : Bool := decide (x ∈ S)
def beta (v : List Int) (k : Nat) : Bool := decide (v.getD k 0 = 1)
theorem chi_sy {A B : List Int} (ha : Up A) (hb : Up B) (x : Int) : chi (syI A B) x = (chi A x ^^ chi B x) := by
  have h := mem_syI ha hb x
  unfold chi
  by_cases h1 : x ∈ A <;> by_cases h2 : x ∈ B <;> simp [h, h1, h2]
theorem chi_nil (x : Int) : chi [] x = false := by simp [chi]
theorem up_chi {A B : List Int} (ha : Up A) (hb : Up B) (h : ∀ x, chi A x = chi B x) : A = B := up_ext ha hb fun x => by
  have := h x
  unfold chi at this
  exact decide_eq_decide.mp this
theorem chi_mem {A : List Int} {x : Int} : chi A x = true ↔ x ∈ A := by simp [chi]
theorem chi_not {A : List Int} {x : Int} : chi A x = false ↔ x ∉ A := by simp [chi]
abbrev addV (a b : List Int) : List Int := List.zipWith Builtin.bitXor a b
theorem bits_add {w : Nat} {a b : List Int} (ha : Bits w a) (hb : Bits w b) : Bits w (addV a b) := by
  refine ⟨by rw [List.length_zipWith, ha.1, hb.1, Nat.min_self], fun z hz => ?_⟩
  obtain ⟨k, hk, e⟩ := List.getElem_of_mem hz
  have h1 : k < a.length := by rw [List.length_zipWith] at hk; omega
  have h2 : k < b.length := by rw [List.length_zipWith] at hk; omega
  rw [List.getElem_zipWith, bx _ _ (ha.2 _ (List.getElem_mem h1)) (hb.2 _ (List.getElem_mem h2))] at e
  omega
theorem beta_add {w : Nat} {a b : List Int} (ha : Bits w a) (hb : Bits w b) (k : Nat) : beta (addV a b) k = (beta a k ^^ beta b k) := by
  unfold beta
  by_cases hk : k < w
  · have h1 : k < a.length := by rw [ha.1]; exact hk
    have h2 : k < b.length := by rw [hb.1]; exact hk
    have h3 : k < (addV a b).length := by rw [List.length_zipWith]; omega
    rw [List.getD_eq_getElem?_getD, List.getElem?_eq_getElem h3, List.getD_eq_getElem?_getD, List.getElem?_eq_getElem h1, List.getD_eq_getElem?_getD, List.getElem?_eq_getElem h2, Option.getD_some, Option.getD_some, Option.getD_some, List.getElem_zipWith]
    have c1 := ha.2 _ (List.getElem_mem h1)
    have c2 := hb.2 _ (List.getElem_mem h2)
    rw [bx _ _ c1 c2]
    rcases c1 with e | e <;> rcases c2 with e2 | e2 <;> rw [e, e2] <;> rfl
  · have h3 : ¬ k < (addV a b).length := by rw [List.length_zipWith, ha.1, hb.1]; omega
    rw [List.getD_eq_getElem?_getD, List.getElem?_eq_none (by omega), List.getD_eq_getElem?_getD, List.getElem?_eq_none (by rw [ha.1]; omega), List.getD_eq_getElem?_getD, List.getElem?_eq_none (by rw [hb.1]; omega)]
    rfl
theorem bits_ext {w : Nat} {a b : List Int} (ha : Bits w a) (hb : Bits w b) (h : ∀ k, k < w → beta a k = beta b k) : a = b := by
  refine List.ext_getElem (by rw [ha.1, hb.1]) fun k h1 h2 => ?_
  have hk : k < w := by rw [← ha.1]; exact h1
  have e := h k hk
  unfold beta at e
  rw [List.getD_eq_getElem?_getD, List.getElem?_eq_getElem h1, List.getD_eq_getElem?_getD, List.getElem?_eq_getElem h2, Option.getD_some, Option.getD_some] at e
  have c1 := ha.2 _ (List.getElem_mem h1)
  have c2 := hb.2 _ (List.getElem_mem h2)
  have e' := decide_eq_decide.mp e
  rcases c1 with z | z <;> rcases c2 with z2 | z2
  · rw [z, z2]
  · have := e'.mpr z2; omega
  · have := e'.mp z; omega
  · rw [z, z2]
theorem beta_zero (w k : Nat) : beta (List.replicate w 0) k = false := by
  unfold beta
  rw [List.getD_eq_getElem?_getD, List.getElem?_replicate]
  split <;> rfl
/-- an odd number of the Ns -/
def xorl (ns : List Int) (f : Int → Bool) : Bool := ns.foldr (fun n b => f n ^^ b) false
theorem xorl_nil (f : Int → Bool) : xorl [] f = false := rfl
theorem xorl_cons (n : Int) (ns : List Int) (f : Int → Bool) : xorl (n :: ns) f = (f n ^^ xorl ns f) := rfl
theorem xorl_app (as bs : List Int) (f : Int → Bool) : xorl (as ++ bs) f = (xorl as f ^^ xorl bs f) := by
  induction as with
  | nil => simp [xorl_nil]
  | cons a r ih => rw [List.cons_append, xorl_cons, xorl_cons, ih, Bool.xor_assoc]
theorem xorl_sy (f : Int → Bool) : ∀ (as bs : List Int), xorl (syI as bs) f = (xorl as f ^^ xorl bs f)
  | [], bs => by rw [syI_nill, xorl_nil, Bool.false_xor]
  | a :: as, [] => by rw [syI_nilr, xorl_nil, Bool.xor_false]
  | a :: as, b :: bs => by
    rcases Int.lt_trichotomy a b with h | h | h
    · rw [syI_lt h, xorl_cons, xorl_cons, xorl_sy f as (b :: bs), Bool.xor_assoc]
    · subst h
      rw [syI_eq, xorl_cons, xorl_cons, xorl_sy f as bs]
      cases f a <;> cases xorl as f <;> cases xorl bs f <;> rfl
    · rw [syI_gt h, xorl_cons, xorl_cons (n := b), xorl_sy f (a :: as) bs]
      cases f b <;> cases xorl (a :: as) f <;> cases xorl bs f <;> rfl
termination_by as bs => as.length + bs.length
theorem xorl_xor (ns : List Int) (f g : Int → Bool) : xorl ns (fun n => f n ^^ g n) = (xorl ns f ^^ xorl ns g) := by
  induction ns with
  | nil => rfl
  | cons n r ih => rw [xorl_cons, xorl_cons, xorl_cons, ih]; cases f n <;> cases g n <;> cases xorl r f <;> cases xorl r g <;> rfl
theorem xorl_congr {ns : List Int} {f g : Int → Bool} (h : ∀ n ∈ ns, f n = g n) : xorl ns f = xorl ns g := by
  induction ns with
  | nil => rfl
  | cons n r ih => rw [xorl_cons, xorl_cons, h n List.mem_cons_self, ih fun m hm => h m (List.mem_cons_of_mem _ hm)]
theorem xorl_false (ns : List Int) : xorl ns (fun _ => false) = false := by
  induction ns with
  | nil => rfl
  | cons n r ih => rw [xorl_cons, ih]; rfl

/-! ## rows -/
abbrev Row := List Int × List Int × List Int
abbrev Rows := List (Int × Row)
def rowSum (a b : Row) : Row := (syI a.1 b.1, addV a.2.1 b.2.1, syI a.2.2 b.2.2)
def restStep (r : Row) (p : Int × Row) : Row := if p.1 ∈ r.1 then rowSum r p.2 else r
def restF (rows : Rows) (r : Row) : Row := rows.foldl restStep r
def takeF (rows : Rows) (r : Row) (l : Int) : Rows := rows.map (fun p => if l ∈ p.2.1 then (p.1, rowSum p.2 r) else p) ++ [(l, r)]
/-- the word (0 new, 1 known, 2 against), the numbers -/
def judW (rows : Rows) (P V : List Int) (n : Int) : Nat × List Int :=
  if (restF rows (P, V, [n])).1 = [] then (if ∀ b ∈ (restF rows (P, V, [n])).2.1, b = 0 then 1 else 2, syI (restF rows (P, V, [n])).2.2 [n]) else (0, [])
def judR (rows : Rows) (P V : List Int) (n : Int) : Rows :=
  match (restF rows (P, V, [n])).1 with
  | [] => rows
  | l :: _ => takeF rows (restF rows (P, V, [n])) l
structure RowOk (many : Int) (w : Nat) (r : Row) : Prop where
  us : Up r.1
  sb : ∀ x ∈ r.1, 0 ≤ x ∧ x < many
  vb : Bits w r.2.1
  un : Up r.2.2
theorem RowOk.sum {many : Int} {w : Nat} {a b : Row} (ha : RowOk many w a) (hb : RowOk many w b) : RowOk many w (rowSum a b) := by
  refine ⟨up_syI ha.us hb.us, fun x hx => ?_, bits_add ha.vb hb.vb, up_syI ha.un hb.un⟩
  have h := (mem_syI ha.us hb.us x).mp hx
  by_cases z : x ∈ a.1
  · exact ha.sb x z
  · by_cases z2 : x ∈ b.1
    · exact hb.sb x z2
    · exact absurd (by simp [z, z2]) h
/-- rows: each with a lead of its own -/
structure RowsOk (many : Int) (w : Nat) (rows : Rows) : Prop where
  ok : ∀ p ∈ rows, RowOk many w p.2
  ld : ∀ p ∈ rows, p.1 ∈ p.2.1
  on : ∀ p ∈ rows, ∀ q ∈ rows, p.1 ∈ q.2.1 → p = q
  nd : (rows.map (·.1)).Nodup
theorem RowsOk.nil {many : Int} {w : Nat} : RowsOk many w [] := ⟨(fun _ h => nomatch h), (fun _ h => nomatch h), (fun _ h => nomatch h), List.nodup_nil⟩
theorem RowsOk.tail {many : Int} {w : Nat} {p : Int × Row} {rows : Rows} (h : RowsOk many w (p :: rows)) : RowsOk many w rows :=
  ⟨fun q hq => h.ok q (List.mem_cons_of_mem _ hq), fun q hq => h.ld q (List.mem_cons_of_mem _ hq), fun q hq r hr z => h.on q (List.mem_cons_of_mem _ hq) r (List.mem_cons_of_mem _ hr) z, (List.nodup_cons.mp (by simpa using h.nd)).2⟩
def prS (rows : Rows) (S : Int → Bool) (x : Int) : Bool := rows.foldr (fun p b => (S p.1 && chi p.2.1 x) ^^ b) false
def prV (rows : Rows) (S : Int → Bool) (k : Nat) : Bool := rows.foldr (fun p b => (S p.1 && beta p.2.2.1 k) ^^ b) false
def prN (rows : Rows) (S : Int → Bool) (n : Int) : Bool := rows.foldr (fun p b => (S p.1 && chi p.2.2.2 n) ^^ b) false
theorem pr_cong {α : Type} {rows : Rows} {S T : Int → Bool} {f : Int × Row → α → Bool} (h : ∀ p ∈ rows, S p.1 = T p.1) (x : α) : rows.foldr (fun p b => (S p.1 && f p x) ^^ b) false = rows.foldr (fun p b => (T p.1 && f p x) ^^ b) false := by
  induction rows with
  | nil => rfl
  | cons p r ih => rw [List.foldr_cons, List.foldr_cons, h p List.mem_cons_self, ih fun q hq => h q (List.mem_cons_of_mem _ hq)]
theorem restF_cons (p : Int × Row) (rows : Rows) (r : Row) : restF (p :: rows) r = restF rows (restStep r p) := rfl
theorem restStep_ok {many : Int} {w : Nat} {r : Row} {p : Int × Row} (hr : RowOk many w r) (hp : RowOk many w p.2) : RowOk many w (restStep r p) := by
  unfold restStep
  split
  · exact hr.sum hp
  · exact hr
theorem restF_ok {many : Int} {w : Nat} : ∀ {rows : Rows} {r : Row}, (∀ p ∈ rows, RowOk many w p.2) → RowOk many w r → RowOk many w (restF rows r)
  | [], r, _, hr => hr
  | p :: rows, r, h, hr => by
    rw [restF_cons]
    exact restF_ok (fun q hq => h q (List.mem_cons_of_mem _ hq)) (restStep_ok hr (h p List.mem_cons_self))
/-- what is left, in closed form -/
theorem rest_eq {many : Int} {w : Nat} : ∀ {rows : Rows} {r : Row}, RowsOk many w rows → RowOk many w r →
    (∀ x, chi (restF rows r).1 x = (chi r.1 x ^^ prS rows (chi r.1) x)) ∧ (∀ k, beta (restF rows r).2.1 k = (beta r.2.1 k ^^ prV rows (chi r.1) k)) ∧ (∀ n, chi (restF rows r).2.2 n = (chi r.2.2 n ^^ prN rows (chi r.1) n))
  | [], r, _, _ => ⟨fun x => by simp [restF, prS], fun x => by simp [restF, prV], fun x => by simp [restF, prN]⟩
  | p :: rows, r, h, hr => by
    have hp := h.ok p List.mem_cons_self
    obtain ⟨i1, i2, i3⟩ := rest_eq (rows := rows) (r := restStep r p) h.tail (restStep_ok hr hp)
    have hnd := (List.nodup_cons.mp (show (p.1 :: rows.map (·.1)).Nodup from h.nd)).1
    have hc : ∀ q ∈ rows, chi (restStep r p).1 q.1 = chi r.1 q.1 := fun q hq => by
      unfold restStep
      split
      · show chi (syI r.1 p.2.1) q.1 = _
        rw [chi_sy hr.us hp.us]
        have : q.1 ∉ p.2.1 := fun z => by
          have e := h.on q (List.mem_cons_of_mem _ hq) p List.mem_cons_self z
          exact hnd (e ▸ List.mem_map.mpr ⟨q, hq, rfl⟩)
        rw [chi_not.mpr this, Bool.xor_false]
      · rfl
    have e1 : ∀ x, prS rows (chi (restStep r p).1) x = prS rows (chi r.1) x := fun x => pr_cong (f := fun p x => chi p.2.1 x) hc x
    have e2 : ∀ x, prV rows (chi (restStep r p).1) x = prV rows (chi r.1) x := fun x => pr_cong (f := fun p x => beta p.2.2.1 x) hc x
    have e3 : ∀ x, prN rows (chi (restStep r p).1) x = prN rows (chi r.1) x := fun x => pr_cong (f := fun p x => chi p.2.2.2 x) hc x
    refine ⟨fun x => ?_, fun k => ?_, fun n => ?_⟩
    · rw [restF_cons, i1 x, e1 x]
      show _ = (chi r.1 x ^^ ((chi r.1 p.1 && chi p.2.1 x) ^^ prS rows (chi r.1) x))
      rw [← Bool.xor_assoc]
      congr 1
      unfold restStep
      split
      · rename_i z
        show chi (syI r.1 p.2.1) x = _
        rw [chi_sy hr.us hp.us, chi_mem.mpr z, Bool.true_and]
      · rename_i z
        rw [chi_not.mpr z, Bool.false_and, Bool.xor_false]
    · rw [restF_cons, i2 k, e2 k]
      show _ = (beta r.2.1 k ^^ ((chi r.1 p.1 && beta p.2.2.1 k) ^^ prV rows (chi r.1) k))
      rw [← Bool.xor_assoc]
      congr 1
      unfold restStep
      split
      · rename_i z
        show beta (addV r.2.1 p.2.2.1) k = _
        rw [beta_add hr.vb hp.vb, chi_mem.mpr z, Bool.true_and]
      · rename_i z
        rw [chi_not.mpr z, Bool.false_and, Bool.xor_false]
    · rw [restF_cons, i3 n, e3 n]
      show _ = (chi r.2.2 n ^^ ((chi r.1 p.1 && chi p.2.2.2 n) ^^ prN rows (chi r.1) n))
      rw [← Bool.xor_assoc]
      congr 1
      unfold restStep
      split
      · rename_i z
        show chi (syI r.2.2 p.2.2.2) n = _
        rw [chi_sy hr.un hp.un, chi_mem.mpr z, Bool.true_and]
      · rename_i z
        rw [chi_not.mpr z, Bool.false_and, Bool.xor_false]
/-- no lead of a row is left -/
theorem prS_lead {many : Int} {w : Nat} : ∀ {rows : Rows} {S : Int → Bool} {p : Int × Row}, RowsOk many w rows → p ∈ rows → prS rows S p.1 = S p.1
  | [], S, p, _, hp => nomatch hp
  | q :: rows, S, p, h, hp => by
    have hnd := (List.nodup_cons.mp (show (q.1 :: rows.map (·.1)).Nodup from h.nd)).1
    show ((S q.1 && chi q.2.1 p.1) ^^ prS rows S p.1) = _
    rcases List.mem_cons.mp hp with e | e
    · subst e
      rw [chi_mem.mpr (h.ld p List.mem_cons_self), Bool.and_true]
      have z : prS rows S p.1 = false := by
        have key : ∀ rows' : Rows, (∀ q ∈ rows', q ∈ rows) → prS rows' S p.1 = false := fun rows' => by
          induction rows' with
          | nil => intro _; rfl
          | cons q r ih =>
            intro hq
            show ((S q.1 && chi q.2.1 p.1) ^^ prS r S p.1) = false
            have hqm := hq q List.mem_cons_self
            have : p.1 ∉ q.2.1 := fun z => by
              have e := h.on p List.mem_cons_self q (List.mem_cons_of_mem _ hqm) z
              exact hnd (List.mem_map.mpr ⟨q, hqm, by rw [e]⟩)
            rw [chi_not.mpr this, Bool.and_false, ih fun x hx => hq x (List.mem_cons_of_mem _ hx)]; rfl
        exact key rows fun _ z => z
      rw [z, Bool.xor_false]
    · have : p.1 ∉ q.2.1 := fun z => by
        have e' := h.on p hp q List.mem_cons_self z
        exact hnd (List.mem_map.mpr ⟨p, e, by rw [e']⟩)
      rw [chi_not.mpr this, Bool.and_false, Bool.false_xor, prS_lead h.tail e]
theorem rest_noLead {many : Int} {w : Nat} {rows : Rows} {r : Row} (h : RowsOk many w rows) (hr : RowOk many w r) {p : Int × Row} (hp : p ∈ rows) : p.1 ∉ (restF rows r).1 := by
  rw [← chi_not, (rest_eq h hr).1, prS_lead h hp, Bool.xor_self]
theorem take_ok {many : Int} {w : Nat} {rows : Rows} {r : Row} {l : Int} (h : RowsOk many w rows) (hr : RowOk many w r) (hl : l ∈ r.1) (hn : ∀ p ∈ rows, p.1 ∉ r.1) : RowsOk many w (takeF rows r l) := by
  have mem : ∀ p ∈ takeF rows r l, p = (l, r) ∨ ∃ q ∈ rows, p.1 = q.1 ∧ p.2 = if l ∈ q.2.1 then rowSum q.2 r else q.2 := fun p hp => by
    rcases List.mem_append.mp hp with z | z
    · obtain ⟨q, hq, e⟩ := List.mem_map.mp z
      refine .inr ⟨q, hq, ?_⟩
      split at e
      · rename_i w; subst e; exact ⟨rfl, by rw [if_pos w]⟩
      · rename_i w; subst e; exact ⟨rfl, by rw [if_neg w]⟩
    · exact .inl (List.mem_singleton.mp z)
  have lnew : ∀ q ∈ rows, q.1 ≠ l := fun q hq e => hn q hq (e ▸ hl)
  have inQ : ∀ q ∈ rows, ∀ q' ∈ rows, (q.1 ∈ (if l ∈ q'.2.1 then rowSum q'.2 r else q'.2).1 ↔ q.1 ∈ q'.2.1) := fun q hq q' hq' => by
    split
    · show q.1 ∈ syI q'.2.1 r.1 ↔ _
      rw [mem_syI (h.ok q' hq').us hr.us]
      have := hn q hq
      by_cases z : q.1 ∈ q'.2.1 <;> simp [this, z]
    · exact .rfl
  have inL : ∀ q ∈ rows, l ∉ (if l ∈ q.2.1 then rowSum q.2 r else q.2).1 := fun q hq => by
    split
    · rename_i z
      show l ∉ syI q.2.1 r.1
      rw [mem_syI (h.ok q hq).us hr.us]
      simp [z, hl]
    · rename_i z; exact z
  refine ⟨fun p hp => ?_, fun p hp => ?_, fun p hp q hq z => ?_, ?_⟩
  · rcases mem p hp with e | ⟨q, hq, _, e⟩
    · rw [e]; exact hr
    · rw [e]; split
      · exact (h.ok q hq).sum hr
      · exact h.ok q hq
  · rcases mem p hp with e | ⟨q, hq, e1, e2⟩
    · rw [e]; exact hl
    · rw [e1, e2, inQ q hq q hq]; exact h.ld q hq
  · rcases mem p hp with e | ⟨p', hp', e1, e2⟩ <;> rcases mem q hq with e' | ⟨q', hq', e1', e2'⟩
    · rw [e, e']
    · rw [e, e2'] at z; exact absurd z (inL q' hq')
    · rw [e1, e'] at z; exact absurd z (hn p' hp')
    · rw [e1, e2', inQ p' hp' q' hq'] at z
      have := h.on p' hp' q' hq' z
      subst this
      exact Prod.ext (e1.trans e1'.symm) (e2.trans e2'.symm)
  · have ek : (takeF rows r l).map (·.1) = rows.map (·.1) ++ [l] := by
      unfold takeF
      rw [List.map_append, List.map_map]
      congr 1
      refine List.map_congr_left fun p _ => ?_
      show (if l ∈ p.2.1 then (p.1, rowSum p.2 r) else p).1 = p.1
      split <;> rfl
    rw [ek]
    refine List.nodup_append.mpr ⟨h.nd, by simp, fun a ha b hb e => ?_⟩
    rw [List.mem_singleton] at hb
    obtain ⟨q, hq, e'⟩ := List.mem_map.mp ha
    exact lnew q hq (by rw [e', e, hb])
/-- rows behind one more -/
theorem pr_take {α : Type} {rows : Rows} {r : Row} {l : Int} {S : Int → Bool} {f : Row → α → Bool} (hf : ∀ p ∈ rows, ∀ x, f (rowSum p.2 r) x = (f p.2 x ^^ f r x)) (x : α) :
    (takeF rows r l).foldr (fun p b => (S p.1 && f p.2 x) ^^ b) false = (rows.foldr (fun p b => (S p.1 && f p.2 x) ^^ b) false ^^ (f r x && (prS rows S l ^^ S l))) := by
  unfold takeF
  induction rows with
  | nil => show ((S l && f r x) ^^ false) = (false ^^ (f r x && (false ^^ S l))); cases S l <;> cases f r x <;> rfl
  | cons p rows ih =>
    have ih := ih fun q hq => hf q (List.mem_cons_of_mem _ hq)
    rw [List.map_cons, List.cons_append, List.foldr_cons, ih, List.foldr_cons]
    show _ = (_ ^^ (f r x && (((S p.1 && chi p.2.1 l) ^^ prS rows S l) ^^ S l)))
    split
    · rename_i z
      rw [chi_mem.mpr z]
      show ((S p.1 && f (rowSum p.2 r) x) ^^ _) = _
      rw [hf p List.mem_cons_self]
      cases S p.1 <;> cases f p.2 x <;> cases f r x <;> cases prS rows S l <;> cases S l <;> simp
    · rename_i z
      rw [chi_not.mpr z]
      cases S p.1 <;> cases f p.2 x <;> cases f r x <;> cases prS rows S l <;> cases S l <;> simp
/-- (S, V) is a sum of rows -/
def KeptIn (rows : Rows) (S : Int → Bool) (V : Nat → Bool) : Prop := (∀ x, S x = prS rows S x) ∧ ∀ k, V k = prV rows S k
theorem keptIn_take {many : Int} {w : Nat} {rows : Rows} {r : Row} {l : Int} {S : Int → Bool} {V : Nat → Bool} (h : RowsOk many w rows) (hr : RowOk many w r) (hk : KeptIn rows S V) : KeptIn (takeF rows r l) S V := by
  refine ⟨fun x => ?_, fun k => ?_⟩
  · show S x = (takeF rows r l).foldr (fun p b => (S p.1 && chi p.2.1 x) ^^ b) false
    rw [pr_take (f := fun r x => chi r.1 x) (fun p hp x => chi_sy (h.ok p hp).us hr.us x) x, ← hk.1 l, Bool.xor_self, Bool.and_false, Bool.xor_false]
    exact hk.1 x
  · show V k = (takeF rows r l).foldr (fun p b => (S p.1 && beta p.2.2.1 k) ^^ b) false
    rw [pr_take (f := fun r x => beta r.2.1 x) (fun p hp x => beta_add (h.ok p hp).vb hr.vb x) k, ← hk.1 l, Bool.xor_self, Bool.and_false, Bool.xor_false]
    exact hk.2 k
theorem keptIn_new {many : Int} {w : Nat} {rows : Rows} {r0 : Row} {l : Int} (h : RowsOk many w rows) (hr : RowOk many w r0) (hl : l ∈ (restF rows r0).1) : KeptIn (takeF rows (restF rows r0) l) (chi r0.1) (beta r0.2.1) := by
  have ho := restF_ok h.ok hr
  obtain ⟨e1, e2, _⟩ := rest_eq h hr
  have hl1 : (prS rows (chi r0.1) l ^^ chi r0.1 l) = true := by rw [Bool.xor_comm, ← e1 l]; exact chi_mem.mpr hl
  refine ⟨fun x => ?_, fun k => ?_⟩
  · show _ = (takeF rows (restF rows r0) l).foldr (fun p b => (chi r0.1 p.1 && chi p.2.1 x) ^^ b) false
    rw [pr_take (f := fun r x => chi r.1 x) (fun p hp x => chi_sy (h.ok p hp).us ho.us x) x, hl1, Bool.and_true, e1 x]
    show _ = (prS rows (chi r0.1) x ^^ _)
    cases chi r0.1 x <;> cases prS rows (chi r0.1) x <;> rfl
  · show _ = (takeF rows (restF rows r0) l).foldr (fun p b => (chi r0.1 p.1 && beta p.2.2.1 k) ^^ b) false
    rw [pr_take (f := fun r x => beta r.2.1 x) (fun p hp x => beta_add (h.ok p hp).vb ho.vb x) k, hl1, Bool.and_true, e2 k]
    show _ = (prV rows (chi r0.1) k ^^ _)
    cases beta r0.2.1 k <;> cases prV rows (chi r0.1) k <;> rfl
end Rn

namespace Rn
open PySem PySem.Spec PyProof.Rows L2
/-! ## by which numbers -/
def prL (rows : Rows) (S : Int → Bool) : List Int := rows.foldr (fun p acc => if S p.1 = true then syI p.2.2.2 acc else acc) []
theorem prL_up {many : Int} {w : Nat} : ∀ {rows : Rows} {S : Int → Bool}, (∀ p ∈ rows, RowOk many w p.2) → Up (prL rows S)
  | [], S, _ => List.Pairwise.nil
  | p :: rows, S, h => by
    show Up (if S p.1 = true then syI p.2.2.2 (prL rows S) else prL rows S)
    have ih := prL_up (rows := rows) (S := S) fun q hq => h q (List.mem_cons_of_mem _ hq)
    split
    · exact up_syI (h p List.mem_cons_self).un ih
    · exact ih
theorem prL_chi {many : Int} {w : Nat} : ∀ {rows : Rows} {S : Int → Bool}, (∀ p ∈ rows, RowOk many w p.2) → ∀ n, chi (prL rows S) n = prN rows S n
  | [], S, _, n => chi_nil n
  | p :: rows, S, h, n => by
    show chi (if S p.1 = true then syI p.2.2.2 (prL rows S) else prL rows S) n = ((S p.1 && chi p.2.2.2 n) ^^ prN rows S n)
    have hr : ∀ q ∈ rows, RowOk many w q.2 := fun q hq => h q (List.mem_cons_of_mem _ hq)
    have ih := prL_chi (rows := rows) (S := S) hr n
    split
    · rename_i z
      rw [chi_sy (h p List.mem_cons_self).un (prL_up hr), ih, z, Bool.true_and]
    · rename_i z
      rw [ih]; simp [z]
theorem prL_mem : ∀ {rows : Rows} {S : Int → Bool} {n : Int}, (∀ p ∈ rows, Up p.2.2.2) → n ∈ prL rows S → ∃ p ∈ rows, n ∈ p.2.2.2
  | [], S, n, _, h => nomatch h
  | p :: rows, S, n, hu, h => by
    have h' : n ∈ (if S p.1 = true then syI p.2.2.2 (prL rows S) else prL rows S) := h
    have hr : ∀ q ∈ rows, Up q.2.2.2 := fun q hq => hu q (List.mem_cons_of_mem _ hq)
    have go : n ∈ prL rows S → ∃ p' ∈ p :: rows, n ∈ p'.2.2.2 := fun z => by
      obtain ⟨q, hq, e⟩ := prL_mem hr z
      exact ⟨q, List.mem_cons_of_mem _ hq, e⟩
    split at h'
    · have hup : Up (prL rows S) := by
        clear h h' go hu
        induction rows with
        | nil => exact List.Pairwise.nil
        | cons q r ih =>
          show Up (if S q.1 = true then syI q.2.2.2 (prL r S) else prL r S)
          have ih := ih fun x hx => hr x (List.mem_cons_of_mem _ hx)
          split
          · exact up_syI (hr q List.mem_cons_self) ih
          · exact ih
      have := (mem_syI (hu p List.mem_cons_self) hup n).mp h'
      by_cases z : n ∈ p.2.2.2
      · exact ⟨p, List.mem_cons_self, z⟩
      · by_cases z2 : n ∈ prL rows S
        · exact go z2
        · exact absurd (by simp [z, z2]) this
    · exact go h'
theorem prL_xor (f : Int → Bool) : ∀ (rows : Rows) (S : Int → Bool), xorl (prL rows S) f = rows.foldr (fun p b => (S p.1 && xorl p.2.2.2 f) ^^ b) false
  | [], S => rfl
  | p :: rows, S => by
    show xorl (if S p.1 = true then syI p.2.2.2 (prL rows S) else prL rows S) f = ((S p.1 && xorl p.2.2.2 f) ^^ rows.foldr (fun p b => (S p.1 && xorl p.2.2.2 f) ^^ b) false)
    split
    · rename_i z
      rw [xorl_sy, prL_xor f rows S, z, Bool.true_and]
    · rename_i z
      rw [prL_xor f rows S]; simp [z]
/-- the numbers behind a rest -/
theorem rest_nums0 {many : Int} {w : Nat} {rows : Rows} {P V : List Int} (h : RowsOk many w rows) (hr : RowOk many w (P, V, [])) : (restF rows (P, V, [])).2.2 = prL rows (chi P) := by
  refine up_chi (restF_ok h.ok hr).un (prL_up h.ok) fun x => ?_
  rw [(rest_eq h hr).2.2, prL_chi h.ok, chi_nil, Bool.false_xor]
theorem rest_nums1 {many : Int} {w : Nat} {rows : Rows} {P V : List Int} {n : Int} (h : RowsOk many w rows) (hr : RowOk many w (P, V, [n])) : syI (restF rows (P, V, [n])).2.2 [n] = prL rows (chi P) := by
  have hn : Up [n] := List.pairwise_singleton _ _
  refine up_chi (up_syI (restF_ok h.ok hr).un hn) (prL_up h.ok) fun x => ?_
  rw [chi_sy (restF_ok h.ok hr).un hn, (rest_eq h hr).2.2, prL_chi h.ok]
  show ((chi [n] x ^^ prN rows (chi P) x) ^^ chi [n] x) = _
  cases chi [n] x <;> cases prN rows (chi P) x <;> rfl
theorem rest_set {many : Int} {w : Nat} {rows : Rows} {P V V' ns ns' : List Int} (h : RowsOk many w rows) (hr : RowOk many w (P, V, ns)) (hr' : RowOk many w (P, V', ns')) : (restF rows (P, V, ns)).1 = (restF rows (P, V', ns')).1 :=
  up_chi (restF_ok h.ok hr).us (restF_ok h.ok hr').us fun x => by rw [(rest_eq h hr).1, (rest_eq h hr').1]

/-! ## parcels, what is told of them -/
abbrev Pcs := List (List Int × List Int)
def pS (ps : Pcs) (n : Int) : List Int := (ps.getD n.toNat ([], [])).1
def pV (ps : Pcs) (n : Int) : List Int := (ps.getD n.toNat ([], [])).2
def Told (ps : Pcs) (r : Row) : Prop := (∀ x, chi r.1 x = xorl r.2.2 fun n => chi (pS ps n) x) ∧ ∀ k, beta r.2.1 k = xorl r.2.2 fun n => beta (pV ps n) k
theorem Told.sum {many : Int} {w : Nat} {ps : Pcs} {a b : Row} (ha : RowOk many w a) (hb : RowOk many w b) (ta : Told ps a) (tb : Told ps b) : Told ps (rowSum a b) := by
  refine ⟨fun x => ?_, fun k => ?_⟩
  · show chi (syI a.1 b.1) x = xorl (syI a.2.2 b.2.2) _
    rw [chi_sy ha.us hb.us, xorl_sy, ta.1, tb.1]
  · show beta (addV a.2.1 b.2.1) k = xorl (syI a.2.2 b.2.2) _
    rw [beta_add ha.vb hb.vb, xorl_sy, ta.2, tb.2]
theorem Told.rest {many : Int} {w : Nat} {ps : Pcs} : ∀ {rows : Rows} {r : Row}, (∀ p ∈ rows, RowOk many w p.2 ∧ Told ps p.2) → RowOk many w r → Told ps r → Told ps (restF rows r)
  | [], r, _, _, t => t
  | p :: rows, r, h, hr, t => by
    rw [restF_cons]
    have hp := h p List.mem_cons_self
    refine Told.rest (fun q hq => h q (List.mem_cons_of_mem _ hq)) (restStep_ok hr hp.1) ?_
    unfold restStep
    split
    · exact t.sum hr hp.1 hp.2
    · exact t
theorem Told.more {ps : Pcs} {q : List Int × List Int} {r : Row} (hn : ∀ n ∈ r.2.2, 0 ≤ n ∧ n < ps.length) (t : Told ps r) : Told (ps ++ [q]) r := by
  have e : ∀ n ∈ r.2.2, (ps ++ [q]).getD n.toNat ([], []) = ps.getD n.toNat ([], []) := fun n h => by
    have := hn n h
    rw [List.getD_eq_getElem?_getD, List.getElem?_append_left (by omega), List.getD_eq_getElem?_getD]
  refine ⟨fun x => ?_, fun k => ?_⟩
  · rw [t.1 x]; exact xorl_congr fun n h => by unfold pS; rw [e n h]
  · rw [t.2 k]; exact xorl_congr fun n h => by unfold pV; rw [e n h]
/-- a sum of told rows is told -/
theorem pr_told {ps : Pcs} {rows : Rows} (h : ∀ p ∈ rows, Told ps p.2) (S : Int → Bool) : (∀ x, prS rows S x = xorl (prL rows S) fun n => chi (pS ps n) x) ∧ ∀ k, prV rows S k = xorl (prL rows S) fun n => beta (pV ps n) k := by
  refine ⟨fun x => ?_, fun k => ?_⟩
  · rw [prL_xor]
    unfold prS
    induction rows with
    | nil => rfl
    | cons p r ih => rw [List.foldr_cons, List.foldr_cons, ih fun q hq => h q (List.mem_cons_of_mem _ hq), (h p List.mem_cons_self).1]
  · rw [prL_xor]
    unfold prV
    induction rows with
    | nil => rfl
    | cons p r ih => rw [List.foldr_cons, List.foldr_cons, ih fun q hq => h q (List.mem_cons_of_mem _ hq), (h p List.mem_cons_self).2]
/-- the parcels ps were judged one after another: rows, their numbers all from nws; each of the kept ones is a sum of rows -/
structure SpanInv (many : Int) (w : Nat) (ps : Pcs) (nws kept : List Int) (rows : Rows) : Prop where
  ok : RowsOk many w rows
  nums : ∀ p ∈ rows, ∀ n ∈ p.2.2.2, n ∈ nws
  nw : ∀ n ∈ nws, 0 ≤ n ∧ n < ps.length ∧ n ∈ kept
  told : ∀ p ∈ rows, Told ps p.2
  kp : ∀ n ∈ kept, 0 ≤ n ∧ n < ps.length ∧ KeptIn rows (chi (pS ps n)) (beta (pV ps n))
  ps_ok : ∀ q ∈ ps, Up q.1 ∧ (∀ x ∈ q.1, 0 ≤ x ∧ x < many) ∧ Bits w q.2
  len : nws.length = rows.length
  nup : Up nws
theorem SpanInv.start {many : Int} {w : Nat} : SpanInv many w [] [] [] [] :=
  ⟨.nil, (fun _ h => nomatch h), (fun _ h => nomatch h), (fun _ h => nomatch h), (fun _ h => nomatch h), (fun _ h => nomatch h), rfl, .nil⟩
theorem pS_last {ps : Pcs} {q : List Int × List Int} : (ps ++ [q]).getD ((ps.length : Int)).toNat ([], []) = q := by
  rw [Int.toNat_natCast, List.getD_eq_getElem?_getD, List.getElem?_append_right (Nat.le_refl _), Nat.sub_self]; rfl
theorem getD_app {ps : Pcs} {q : List Int × List Int} {n : Int} (h : 0 ≤ n ∧ n < ps.length) : (ps ++ [q]).getD n.toNat ([], []) = ps.getD n.toNat ([], []) := by
  rw [List.getD_eq_getElem?_getD, List.getElem?_append_left (by omega), List.getD_eq_getElem?_getD]
/-- the next parcel is judged -/
theorem SpanInv.step {many : Int} {w : Nat} {ps : Pcs} {nws kept : List Int} {rows : Rows} {P V : List Int} (I : SpanInv many w ps nws kept rows) (hP : Up P) (hb : ∀ x ∈ P, 0 ≤ x ∧ x < many) (hV : Bits w V) :
    SpanInv many w (ps ++ [(P, V)]) (if (judW rows P V ps.length).1 = 0 then nws ++ [(ps.length : Int)] else nws) (if (judW rows P V ps.length).1 = 2 then kept else kept ++ [(ps.length : Int)]) (judR rows P V ps.length) := by
  have hr : RowOk many w (P, V, [(ps.length : Int)]) := ⟨hP, hb, hV, List.pairwise_singleton _ _⟩
  have hro := restF_ok I.ok.ok hr
  have okk : ∀ q ∈ ps ++ [(P, V)], Up q.1 ∧ (∀ x ∈ q.1, 0 ≤ x ∧ x < many) ∧ Bits w q.2 := fun q hq => by
    rcases List.mem_append.mp hq with z | z
    · exact I.ps_ok q z
    · rw [List.mem_singleton] at z; subst z; exact ⟨hP, hb, hV⟩
  have len1 : (ps ++ [(P, V)]).length = ps.length + 1 := by rw [List.length_append, List.length_singleton]
  have tm : ∀ p ∈ rows, Told (ps ++ [(P, V)]) p.2 := fun p hp => (I.told p hp).more fun n hn => by
    have := I.nw n (I.nums p hp n hn); exact ⟨this.1, this.2.1⟩
  have eS : chi (pS (ps ++ [(P, V)]) (ps.length : Int)) = chi P := by unfold pS; rw [pS_last]
  have eV : beta (pV (ps ++ [(P, V)]) (ps.length : Int)) = beta V := by unfold pV; rw [pS_last]
  have old : ∀ n, 0 ≤ n ∧ n < (ps.length : Int) → pS (ps ++ [(P, V)]) n = pS ps n ∧ pV (ps ++ [(P, V)]) n = pV ps n := fun n hn => by
    unfold pS pV; rw [getD_app hn]; exact ⟨rfl, rfl⟩
  cases q : (restF rows (P, V, [(ps.length : Int)])).1 with
  | nil =>
    have eR : judR rows P V ps.length = rows := by unfold judR; rw [q]
    rw [eR]
    have h0 : (judW rows P V ps.length).1 ≠ 0 := by
      unfold judW; rw [if_pos q]; split <;> simp
    rw [if_neg h0]
    refine ⟨I.ok, I.nums, fun n hn => ?_, tm, fun n hn => ?_, okk, I.len, I.nup⟩
    · have := I.nw n hn
      refine ⟨this.1, by rw [len1]; omega, ?_⟩
      split
      · exact this.2.2
      · exact List.mem_append_left _ this.2.2
    · have oldk : n ∈ kept → 0 ≤ n ∧ n < ((ps ++ [(P, V)]).length : Int) ∧ KeptIn rows (chi (pS (ps ++ [(P, V)]) n)) (beta (pV (ps ++ [(P, V)]) n)) := fun h => by
        have := I.kp n h
        obtain ⟨e1, e2⟩ := old n ⟨this.1, this.2.1⟩
        rw [e1, e2, len1]
        exact ⟨this.1, by omega, this.2.2⟩
      split at hn
      · exact oldk hn
      · rename_i h2
        rcases List.mem_append.mp hn with z | z
        · exact oldk z
        · rw [List.mem_singleton] at z
          subst z
          rw [eS, eV, len1]
          refine ⟨by omega, by omega, fun x => ?_, fun k => ?_⟩
          · have := (rest_eq I.ok hr).1 x
            rw [q, chi_nil] at this
            revert this
            show false = (chi P x ^^ prS rows (chi P) x) → _
            cases chi P x <;> cases prS rows (chi P) x <;> decide
          · have := (rest_eq I.ok hr).2.1 k
            have hz : ∀ b ∈ (restF rows (P, V, [(ps.length : Int)])).2.1, b = 0 := by
              refine Classical.byContradiction fun z => h2 ?_
              unfold judW
              rw [if_pos q, if_neg z]
            have hb0 : beta (restF rows (P, V, [(ps.length : Int)])).2.1 k = false := by
              unfold beta
              rw [List.getD_eq_getElem?_getD]
              cases hq : (restF rows (P, V, [(ps.length : Int)])).2.1[k]? with
              | none => rfl
              | some b => rw [hz b (List.mem_of_getElem? hq)]; rfl
            rw [hb0] at this
            revert this
            show false = (beta V k ^^ prV rows (chi P) k) → _
            cases beta V k <;> cases prV rows (chi P) k <;> decide
  | cons l t =>
    have eR : judR rows P V ps.length = takeF rows (restF rows (P, V, [(ps.length : Int)])) l := by unfold judR; rw [q]
    have hl : l ∈ (restF rows (P, V, [(ps.length : Int)])).1 := by rw [q]; exact List.mem_cons_self
    have e0 : (judW rows P V ps.length).1 = 0 := by unfold judW; rw [if_neg (by rw [q]; exact fun z => nomatch z)]
    rw [eR, if_pos e0, if_neg (by rw [e0]; decide)]
    have tr : Told (ps ++ [(P, V)]) (restF rows (P, V, [(ps.length : Int)])) := Told.rest (fun p hp => ⟨I.ok.ok p hp, tm p hp⟩) hr ⟨fun x => by
      show chi P x = (chi (pS (ps ++ [(P, V)]) (ps.length : Int)) x ^^ false)
      rw [eS, Bool.xor_false], fun k => by
      show beta V k = (beta (pV (ps ++ [(P, V)]) (ps.length : Int)) k ^^ false)
      rw [eV, Bool.xor_false]⟩
    have nrest : ∀ n ∈ (restF rows (P, V, [(ps.length : Int)])).2.2, n ∈ nws ++ [(ps.length : Int)] := fun n hn => by
      by_cases e : n = ps.length
      · rw [e]; exact List.mem_append_right _ (List.mem_singleton.mpr rfl)
      · have h1 : n ∈ syI (restF rows (P, V, [(ps.length : Int)])).2.2 [(ps.length : Int)] := by
          rw [mem_syI hro.un (List.pairwise_singleton _ _)]; simp [hn, e]
        rw [rest_nums1 I.ok hr] at h1
        obtain ⟨p, hp, z⟩ := prL_mem (fun p hp => (I.ok.ok p hp).un) h1
        exact List.mem_append_left _ (I.nums p hp n z)
    have mem : ∀ p ∈ takeF rows (restF rows (P, V, [(ps.length : Int)])) l, (p.2 = restF rows (P, V, [(ps.length : Int)])) ∨ ∃ q' ∈ rows, p.2 = rowSum q'.2 (restF rows (P, V, [(ps.length : Int)])) ∨ p.2 = q'.2 := fun p hp => by
      rcases List.mem_append.mp hp with z | z
      · obtain ⟨q', hq', e⟩ := List.mem_map.mp z
        refine .inr ⟨q', hq', ?_⟩
        split at e
        · exact .inl (by rw [← e])
        · exact .inr (by rw [← e])
      · rw [List.mem_singleton] at z; exact .inl (by rw [z])
    refine ⟨take_ok I.ok hro hl fun p hp => rest_noLead I.ok hr hp, fun p hp n hn => ?_, fun n hn => ?_, fun p hp => ?_, fun n hn => ?_, okk, ?_, ?_⟩
    · rcases mem p hp with e | ⟨q', hq', e | e⟩
      · rw [e] at hn; exact nrest n hn
      · rw [e] at hn
        have := (mem_syI (I.ok.ok q' hq').un hro.un n).mp hn
        by_cases z : n ∈ q'.2.2.2
        · exact List.mem_append_left _ (I.nums q' hq' n z)
        · by_cases z2 : n ∈ (restF rows (P, V, [(ps.length : Int)])).2.2
          · exact nrest n z2
          · exact absurd (by simp [z, z2]) this
      · rw [e] at hn; exact List.mem_append_left _ (I.nums q' hq' n hn)
    · rw [len1]
      rcases List.mem_append.mp hn with z | z
      · have := I.nw n z; exact ⟨this.1, by omega, List.mem_append_left _ this.2.2⟩
      · rw [List.mem_singleton] at z; subst z; exact ⟨by omega, by omega, List.mem_append_right _ (List.mem_singleton.mpr rfl)⟩
    · rcases mem p hp with e | ⟨q', hq', e | e⟩
      · rw [e]; exact tr
      · rw [e]; exact (tm q' hq').sum (I.ok.ok q' hq') hro tr
      · rw [e]; exact tm q' hq'
    · rw [len1]
      rcases List.mem_append.mp hn with z | z
      · have := I.kp n z
        obtain ⟨e1, e2⟩ := old n ⟨this.1, this.2.1⟩
        rw [e1, e2]
        exact ⟨this.1, by omega, keptIn_take I.ok hro this.2.2⟩
      · rw [List.mem_singleton] at z
        subst z
        rw [eS, eV]
        exact ⟨by omega, by omega, keptIn_new I.ok hr hl⟩
    · rw [List.length_append, List.length_singleton, I.len]
      unfold takeF
      rw [List.length_append, List.length_map, List.length_singleton]
    · refine List.pairwise_append.mpr ⟨I.nup, List.pairwise_singleton _ _, fun a ha b hb => ?_⟩
      rw [List.mem_singleton] at hb
      have := (I.nw a ha).2.1
      omega
end Rn

namespace Rn
open PySem PySem.Spec PyProof.Rows L2
/-! ## counting -/
theorem xorl_count (ns : List Int) (f : Int → Bool) : xorl ns f = decide ((ns.map fun n => if f n = true then (1 : Int) else 0).sum % 2 = 1) := by
  induction ns with
  | nil => rfl
  | cons n r ih =>
    rw [xorl_cons, ih, List.map_cons, List.sum_cons]
    generalize (r.map fun n => if f n = true then (1 : Int) else 0).sum = s
    cases f n
    · show (false ^^ _) = decide ((0 + s) % 2 = 1)
      rw [Bool.false_xor, Int.zero_add]
    · show (true ^^ _) = decide ((1 + s) % 2 = 1)
      by_cases h : s % 2 = 1
      · rw [decide_eq_true h, decide_eq_false (by omega)]; rfl
      · rw [decide_eq_false h, decide_eq_true (by omega)]; rfl
/-- the odd ones of sets, as the law finds them -/
def oddI (ss : List (List Int)) (m : Int) : List Int := ((List.range m.toNat).filter fun (j : Nat) => decide ((ss.map fun s => if (j : Int) ∈ s then (1 : Int) else 0).sum % 2 = 1)).map fun (j : Nat) => (j : Int)
theorem oddI_up (ss : List (List Int)) (m : Int) : Up (oddI ss m) := List.pairwise_map.mpr ((List.pairwise_lt_range.sublist List.filter_sublist).imp fun h => by omega)
theorem oddI_bd {ss : List (List Int)} {m x : Int} (h : x ∈ oddI ss m) : 0 ≤ x ∧ x < m := by
  obtain ⟨j, hj, rfl⟩ := List.mem_map.mp h
  have := List.mem_range.mp (List.mem_filter.mp hj).1
  omega
def xors (ss : List (List Int)) (x : Int) : Bool := ss.foldr (fun s b => chi s x ^^ b) false
theorem xors_count (ss : List (List Int)) (x : Int) : xors ss x = decide ((ss.map fun s => if x ∈ s then (1 : Int) else 0).sum % 2 = 1) := by
  induction ss with
  | nil => rfl
  | cons n r ih =>
    show (chi n x ^^ xors r x) = _
    rw [ih, List.map_cons, List.sum_cons]
    generalize (r.map fun s => if x ∈ s then (1 : Int) else 0).sum = s
    by_cases hx : x ∈ n
    · rw [chi_mem.mpr hx, if_pos hx]
      by_cases h : s % 2 = 1
      · rw [decide_eq_true h, decide_eq_false (by omega)]; rfl
      · rw [decide_eq_false h, decide_eq_true (by omega)]; rfl
    · rw [chi_not.mpr hx, if_neg hx, Bool.false_xor, Int.zero_add]
theorem oddI_chi {ss : List (List Int)} {m x : Int} (hx : 0 ≤ x ∧ x < m) : chi (oddI ss m) x = xors ss x := by
  rw [xors_count]
  unfold chi oddI
  rw [decide_eq_decide]
  constructor
  · intro h
    obtain ⟨j, hj, rfl⟩ := List.mem_map.mp h
    exact of_decide_eq_true (List.mem_filter.mp hj).2
  · intro h
    refine List.mem_map.mpr ⟨x.toNat, List.mem_filter.mpr ⟨List.mem_range.mpr (by omega), ?_⟩, by omega⟩
    have e : ((x.toNat : Nat) : Int) = x := by omega
    rw [e]; exact decide_eq_true h
theorem oddI_eq {ss : List (List Int)} {m : Int} {P : List Int} (hP : Up P) (hb : ∀ x ∈ P, 0 ≤ x ∧ x < m) (h : ∀ x, 0 ≤ x → x < m → chi P x = xors ss x) : oddI ss m = P := by
  refine up_chi (oddI_up ss m) hP fun x => ?_
  by_cases hx : 0 ≤ x ∧ x < m
  · rw [oddI_chi hx, h x hx.1 hx.2]
  · rw [chi_not.mpr fun z => hx (oddI_bd z), chi_not.mpr fun z => hx (hb x z)]
theorem xors_map (ns : List Int) (f : Int → List Int) (x : Int) : xors (ns.map f) x = xorl ns fun n => chi (f n) x := by
  induction ns with
  | nil => rfl
  | cons n r ih => show (chi (f n) x ^^ xors (r.map f) x) = _; rw [ih]; rfl
/-- values summed as the law does -/
theorem sumI_bits (vs : List (List Int)) (w : Int) : Bits w.toNat (sumI vs w) := by
  unfold sumI
  refine ⟨by rw [List.length_map, List.length_range], fun b hb => ?_⟩
  obtain ⟨j, _, rfl⟩ := List.mem_map.mp hb
  omega
def xorb (vs : List (List Int)) (k : Nat) : Bool := vs.foldr (fun v b => beta v k ^^ b) false
theorem beta_sumI {w : Int} {vs : List (List Int)} (hv : ∀ v ∈ vs, ∀ k, v.getD k 0 = 0 ∨ v.getD k 0 = 1) {k : Nat} (hk : k < w.toNat) : beta (sumI vs w) k = xorb vs k := by
  have e : (sumI vs w).getD k 0 = (vs.map fun v => v.getD k 0).sum % 2 := by
    unfold sumI
    rw [List.getD_eq_getElem?_getD, List.getElem?_map, List.getElem?_range hk]
    show (List.map (fun v => v.getD ((k : Int)).toNat 0) vs).sum % 2 = _
    rw [Int.toNat_natCast]
  unfold beta
  rw [e]
  clear e hk
  induction vs with
  | nil => rfl
  | cons v r ih =>
    have ih := ih fun u hu => hv u (List.mem_cons_of_mem _ hu)
    show _ = (beta v k ^^ xorb r k)
    rw [← ih, List.map_cons, List.sum_cons]
    generalize (r.map fun v => v.getD k 0).sum = s
    unfold beta
    rcases hv v List.mem_cons_self k with z | z
    · rw [z, Int.zero_add, show decide ((0 : Int) = 1) = false from rfl, Bool.false_xor]
    · rw [z]
      by_cases h : s % 2 = 1
      · rw [decide_eq_true h, decide_eq_false (by omega)]; rfl
      · rw [decide_eq_false h, decide_eq_true (by omega)]; rfl
theorem sumI_eq {w : Nat} {vs : List (List Int)} {V : List Int} (hv : ∀ v ∈ vs, Bits w v) (hV : Bits w V) (h : ∀ k, k < w → beta V k = xorb vs k) : sumI vs w = V := by
  have hb := sumI_bits vs (w : Int)
  rw [Int.toNat_natCast] at hb
  refine bits_ext hb hV fun k hk => ?_
  rw [beta_sumI (fun v hv' k => bits_getD (hv v hv') k) (by rw [Int.toNat_natCast]; exact hk), h k hk]
theorem xorb_map (ns : List Int) (f : Int → List Int) (k : Nat) : xorb (ns.map f) k = xorl ns fun n => beta (f n) k := by
  induction ns with
  | nil => rfl
  | cons n r ih => show (beta (f n) k ^^ xorb (r.map f) k) = _; rw [ih]; rfl

/-! ## openings -/
def opn (rows : Rows) (p : Int) : List Int := rise ([p] ++ (rows.filter fun q => decide (p ∈ q.2.1)).map (·.1))
theorem xorl_insI (f : Int → Bool) {x : Int} : ∀ {l : List Int}, x ∉ l → xorl (insI x l) f = (f x ^^ xorl l f)
  | [], _ => rfl
  | y :: r, h => by
    unfold insI
    split
    · rfl
    · split
      · rename_i h1 h2; exact absurd (by rw [h2]; exact List.mem_cons_self) h
      · rw [xorl_cons, xorl_insI f (l := r) fun z => h (List.mem_cons_of_mem _ z), xorl_cons]
        cases f x <;> cases f y <;> cases xorl r f <;> rfl
theorem xorl_rise (f : Int → Bool) : ∀ {l : List Int}, l.Nodup → xorl (rise l) f = xorl l f
  | [], _ => rfl
  | x :: r, h => by
    have h' := List.nodup_cons.mp h
    show xorl (insI x (rise r)) f = _
    rw [xorl_insI f fun z => h'.1 (mem_rise.mp z), xorl_rise f h'.2, xorl_cons]
theorem opn_nodup {many : Int} {w : Nat} {rows : Rows} {p : Int} (h : RowsOk many w rows) (hp : ∀ q ∈ rows, q.1 ≠ p) : ([p] ++ (rows.filter fun q => decide (p ∈ q.2.1)).map (·.1)).Nodup := by
  refine List.nodup_cons.mpr ⟨fun z => ?_, h.nd.sublist (List.filter_sublist.map _)⟩
  obtain ⟨q, hq, e⟩ := List.mem_map.mp z
  exact hp q (List.mem_filter.mp hq).1 e
/-- how many a set has in common with an opening: odd or even -/
theorem opn_par {many : Int} {w : Nat} {rows : Rows} {p : Int} (h : RowsOk many w rows) (hp : ∀ q ∈ rows, q.1 ≠ p) (S : Int → Bool) : xorl (opn rows p) S = (S p ^^ prS rows S p) := by
  unfold opn
  rw [xorl_rise S (opn_nodup h hp), xorl_app, xorl_cons, xorl_nil, Bool.xor_false]
  congr 1
  clear h hp
  unfold prS
  induction rows with
  | nil => rfl
  | cons q r ih =>
    rw [List.foldr_cons, ← ih, List.filter_cons]
    by_cases z : p ∈ q.2.1
    · rw [if_pos (decide_eq_true z), List.map_cons, xorl_cons, chi_mem.mpr z, Bool.and_true]
    · rw [if_neg (by simp [z]), chi_not.mpr z, Bool.and_false, Bool.false_xor]
theorem opn_up (rows : Rows) (p : Int) : Up (opn rows p) := up_rise _
theorem opn_mem {rows : Rows} {p x : Int} : x ∈ opn rows p ↔ x = p ∨ ∃ q ∈ rows, p ∈ q.2.1 ∧ x = q.1 := by
  unfold opn
  rw [mem_rise]
  constructor
  · intro h
    rcases List.mem_append.mp h with z | z
    · exact .inl (List.mem_singleton.mp z)
    · obtain ⟨q, hq, e⟩ := List.mem_map.mp z
      have := List.mem_filter.mp hq
      exact .inr ⟨q, this.1, of_decide_eq_true this.2, e.symm⟩
  · rintro (z | ⟨q, hq, h1, rfl⟩)
    · exact List.mem_append_left _ (List.mem_singleton.mpr z)
    · exact List.mem_append_right _ (List.mem_map.mpr ⟨q, List.mem_filter.mpr ⟨hq, decide_eq_true h1⟩, rfl⟩)
theorem opn_bd {many : Int} {w : Nat} {rows : Rows} {p x : Int} (h : RowsOk many w rows) (hp : 0 ≤ p ∧ p < many) (hx : x ∈ opn rows p) : 0 ≤ x ∧ x < many := by
  rcases opn_mem.mp hx with rfl | ⟨q, hq, _, rfl⟩
  · exact hp
  · exact (h.ok q hq).sb _ (h.ld q hq)
/-- kept ones: even -/
theorem opn_kept {many : Int} {w : Nat} {rows : Rows} {p : Int} {S : Int → Bool} {V : Nat → Bool} (h : RowsOk many w rows) (hp : ∀ q ∈ rows, q.1 ≠ p) (hk : KeptIn rows S V) : xorl (opn rows p) S = false := by
  rw [opn_par h hp, ← hk.1 p, Bool.xor_self]
/-- what is asked and open: odd -/
theorem opn_ask {many : Int} {w : Nat} {rows : Rows} {p : Int} {r : Row} (h : RowsOk many w rows) (hr : RowOk many w r) (hp : p ∈ (restF rows r).1) : xorl (opn rows p) (chi r.1) = true := by
  rw [opn_par h, ← (rest_eq h hr).1 p]
  · exact chi_mem.mpr hp
  · intro q hq e
    exact rest_noLead h hr hq (e ▸ hp)
end Rn

namespace Rn
open PySem PySem.Spec PyProof.Rows L2
def valStep (L : List (List Int)) (t : List Int) (p : Int) : List Int := List.zipWith Builtin.bitXor t (L.getD p.toNat [])
theorem valI_len {L : List (List Int)} {w : Nat} (hL : ∀ v ∈ L, v.length = w) : ∀ (ps : List Int) (t : List Int), t.length = w → (∀ p ∈ ps, 0 ≤ p ∧ p < L.length) → (ps.foldl (valStep L) t).length = w
  | [], t, ht, _ => ht
  | p :: r, t, ht, hp => by
    rw [List.foldl_cons]
    refine valI_len hL r _ ?_ fun q hq => hp q (List.mem_cons_of_mem _ hq)
    have h := hp p List.mem_cons_self
    have hlt : p.toNat < L.length := by omega
    unfold valStep
    rw [List.length_zipWith, ht, List.getD_eq_getElem?_getD, List.getElem?_eq_getElem hlt, Option.getD_some, hL _ (List.getElem_mem hlt), Nat.min_self]
theorem getD_len {L : List (List Int)} {w : Nat} (hL : ∀ v ∈ L, v.length = w) {p : Int} (h0 : 0 ≤ p) (h1 : p < L.length) : (L.getD p.toNat []).length = w := by
  have hlt : p.toNat < L.length := by omega
  rw [List.getD_eq_getElem?_getD, List.getElem?_eq_getElem hlt, Option.getD_some, hL _ (List.getElem_mem hlt)]
theorem manyI_bd (a : Int) : 1 ≤ manyI a ∧ manyI a ≤ 24 := by
  have q1 : 0 ≤ mixI a 10103 3 ∧ mixI a 10103 3 < 3 := by unfold mixI; omega
  have q2 : 0 ≤ mixI a 10079 7 ∧ mixI a 10079 7 < 7 := by unfold mixI; omega
  have q3 : 0 ≤ mixI a 10091 24 ∧ mixI a 10091 24 < 24 := by unfold mixI; omega
  unfold manyI
  have : (mixI a 10103 3).toNat = 0 ∨ (mixI a 10103 3).toNat = 1 ∨ (mixI a 10103 3).toNat = 2 := by omega
  rcases this with z | z | z <;> rw [z]
  · show 1 ≤ 1 + mixI a 10079 7 ∧ 1 + mixI a 10079 7 ≤ 24
    omega
  · show 1 ≤ 1 + mixI a 10079 7 ∧ 1 + mixI a 10079 7 ≤ 24
    omega
  · show 1 ≤ 1 + mixI a 10091 24 ∧ 1 + mixI a 10091 24 ≤ 24
    omega
theorem wideI_bd (a : Int) : 1 ≤ wideI a ∧ wideI a ≤ 32 := by
  have q1 : 0 ≤ mixI a 10111 2 ∧ mixI a 10111 2 < 2 := by unfold mixI; omega
  have q2 : 0 ≤ mixI a 10093 4 ∧ mixI a 10093 4 < 4 := by unfold mixI; omega
  have q3 : 0 ≤ mixI a 10099 32 ∧ mixI a 10099 32 < 32 := by unfold mixI; omega
  unfold wideI
  have : (mixI a 10111 2).toNat = 0 ∨ (mixI a 10111 2).toNat = 1 := by omega
  rcases this with z | z <;> rw [z]
  · show 1 ≤ 1 + mixI a 10093 4 ∧ 1 + mixI a 10093 4 ≤ 32
    omega
  · show 1 ≤ 1 + mixI a 10099 32 ∧ 1 + mixI a 10099 32 ≤ 32
    omega
theorem bitsI_bits {c w : Int} : Bits w.toNat (bitsI c w) := by
  unfold bitsI
  refine ⟨by rw [List.length_map, List.length_range], fun b hb => ?_⟩
  obtain ⟨j, _, rfl⟩ := List.mem_map.mp hb
  unfold mixedI
  omega
/-- the sum bit by bit -/
theorem fold_bits {L : List (List Int)} {w : Nat} (hL : ∀ v ∈ L, Bits w v) : ∀ (ps : List Int) (t : List Int), Bits w t → (∀ p ∈ ps, 0 ≤ p ∧ p < L.length) →
    ps.foldl (valStep L) t = (List.range w).map fun k => (t.getD k 0 + (ps.map fun p => (L.getD p.toNat []).getD k 0).sum) % 2
  | [], t, ht, _ => by
    refine List.ext_getElem? fun k => ?_
    rw [List.foldl_nil, List.getElem?_map]
    by_cases hk : k < w
    · rw [List.getElem?_range hk, List.getElem?_eq_getElem (by rw [ht.1]; exact hk)]
      show _ = some ((t.getD k 0 + 0) % 2)
      have hb := bits_getD ht k
      have e : t.getD k 0 = t[k]'(by rw [ht.1]; exact hk) := by rw [List.getD_eq_getElem?_getD, List.getElem?_eq_getElem (by rw [ht.1]; exact hk)]; rfl
      rw [← e]
      rcases hb with z | z <;> rw [z] <;> rfl
    · rw [List.getElem?_eq_none (by rw [ht.1]; omega), List.getElem?_eq_none (by rw [List.length_range]; omega)]; rfl
  | p :: r, t, ht, hp => by
    have h := hp p List.mem_cons_self
    have hlt : p.toNat < L.length := by omega
    have hv : Bits w (L.getD p.toNat []) := by
      rw [List.getD_eq_getElem?_getD, List.getElem?_eq_getElem hlt]
      exact hL _ (List.getElem_mem hlt)
    have key : ∀ k, k < w → (valStep L t p).getD k 0 = (t.getD k 0 + (L.getD p.toNat []).getD k 0) % 2 := fun k hk => by
      unfold valStep
      rw [List.getD_eq_getElem?_getD, List.getElem?_zipWith, List.getElem?_eq_getElem (by rw [ht.1]; exact hk), List.getElem?_eq_getElem (by rw [hv.1]; exact hk)]
      show Builtin.bitXor _ _ = _
      have e1 : t.getD k 0 = t[k]'(by rw [ht.1]; exact hk) := by rw [List.getD_eq_getElem?_getD, List.getElem?_eq_getElem (by rw [ht.1]; exact hk)]; rfl
      have e2 : (L.getD p.toNat []).getD k 0 = (L.getD p.toNat [])[k]'(by rw [hv.1]; exact hk) := by rw [List.getD_eq_getElem?_getD, List.getElem?_eq_getElem (by rw [hv.1]; exact hk)]; rfl
      rw [← e1, ← e2]
      exact bx _ _ (bits_getD ht k) (bits_getD hv k)
    have hs : Bits w (valStep L t p) := by
      refine ⟨by unfold valStep; rw [List.length_zipWith, ht.1, hv.1, Nat.min_self], fun b hb => ?_⟩
      obtain ⟨k, hk, e⟩ := List.getElem_of_mem hb
      have hkw : k < w := by
        have : (valStep L t p).length = w := by unfold valStep; rw [List.length_zipWith, ht.1, hv.1, Nat.min_self]
        omega
      have := key k hkw
      rw [List.getD_eq_getElem?_getD, List.getElem?_eq_getElem hk, Option.getD_some, e] at this
      omega
    rw [List.foldl_cons, fold_bits hL r _ hs fun q hq => hp q (List.mem_cons_of_mem _ hq)]
    refine List.map_congr_left fun k hk => ?_
    rw [List.mem_range] at hk
    rw [key k hk, List.map_cons, List.sum_cons]
    omega
theorem valI_sumI {L : List (List Int)} {w : Nat} (hL : ∀ v ∈ L, Bits w v) (h0 : L ≠ []) {ps : List Int} (hp : ∀ p ∈ ps, 0 ≤ p ∧ p < L.length) : valI L ps = sumI (ps.map fun p => L.getD p.toNat []) w := by
  have hw : (L.getD 0 []).length = w := by
    cases L with
    | nil => exact absurd rfl h0
    | cons v r => exact (hL v List.mem_cons_self).1
  show ps.foldl (valStep L) (List.replicate (L.getD 0 []).length 0) = _
  rw [hw, fold_bits hL ps _ (zero_bits w) hp]
  unfold sumI
  rw [Int.toNat_natCast]
  refine List.map_congr_left fun k hk => ?_
  rw [List.mem_range] at hk
  have e : (List.replicate w (0 : Int)).getD k 0 = 0 := by
    rw [List.getD_eq_getElem?_getD, List.getElem?_replicate]; split <;> rfl
  rw [e, Int.zero_add, List.map_map, Int.toNat_natCast]
  rfl
theorem setI_rises {c n : Int} (hn : 1 ≤ n) : risesF (-1) n (setI c n) = true := by
  refine risesF_iff.mpr ?_
  have b : ∀ q : Int, 0 ≤ mixI c q n ∧ mixI c q n < n := fun q => by
    unfold mixI
    exact ⟨Int.emod_nonneg _ (by omega), Int.emod_lt_of_pos _ (by omega)⟩
  unfold setI
  split
  · refine ⟨List.pairwise_singleton _ _, fun p hp => ?_⟩
    rw [List.mem_singleton] at hp
    have := b 10067; omega
  · split
    · refine ⟨up_rise _, fun p hp => ?_⟩
      have hp := mem_rise.mp hp
      simp only [List.mem_cons, List.not_mem_nil, or_false] at hp
      have h1 := b 10067; have h2 := b 10069
      omega
    · refine ⟨?_, fun p hp => ?_⟩
      · refine List.pairwise_map.mpr ((List.pairwise_lt_range.sublist List.filter_sublist).imp fun h => by omega)
      · obtain ⟨j, hj, rfl⟩ := List.mem_map.mp hp
        have := List.mem_range.mp (List.mem_filter.mp hj).1
        omega
theorem setI_len {c n : Int} (hn : 1 ≤ n) (h2 : n ≤ 1000) : (setI c n).length ≤ 1000 := by
  unfold setI
  split
  · exact Nat.le_of_lt (by simp)
  · split
    · exact Nat.le_trans (rise_len _) (Nat.le_of_lt (by simp))
    · rw [List.length_map]
      refine Nat.le_trans (List.length_filter_le _ _) ?_
      rw [List.length_range]; omega
theorem xor_sumI {w : Nat} {xs ys : List Int} (hx : Bits w xs) (hy : Bits w ys) : List.zipWith Builtin.bitXor xs ys = sumI [xs, ys] w := by
  unfold sumI
  rw [Int.toNat_natCast]
  refine List.ext_getElem? fun k => ?_
  rw [List.getElem?_zipWith, List.getElem?_map]
  by_cases hk : k < w
  · have e1 : xs[k]? = some (xs[k]'(by rw [hx.1]; exact hk)) := List.getElem?_eq_getElem _
    have e2 : ys[k]? = some (ys[k]'(by rw [hy.1]; exact hk)) := List.getElem?_eq_getElem _
    rw [e1, e2, List.getElem?_range hk]
    show some (Builtin.bitXor _ _) = some ((([xs, ys].map fun v => v.getD ((k : Int)).toNat 0).sum) % 2)
    rw [Int.toNat_natCast, bx _ _ (hx.2 _ (List.getElem_mem _)) (hy.2 _ (List.getElem_mem _))]
    simp only [List.map_cons, List.map_nil, List.sum_cons, List.sum_nil, List.getD_eq_getElem?_getD, e1, e2, Option.getD_some]
    congr 2
    omega
  · rw [List.getElem?_eq_none (by rw [hx.1]; omega), List.getElem?_eq_none (by rw [hy.1]; omega), List.getElem?_eq_none (by rw [List.length_range]; omega)]
    rfl
end Rn

namespace Rn
open PySem PySem.Spec PyProof.Rows L2
abbrev rowD (r : Row) : PyData := .tuple [.list (r.1.map .int), tupI r.2.1, .list (r.2.2.map .int)]
abbrev rowsD (rows : Rows) : List (Int × PyData) := rows.map fun p => (p.1, rowD p.2)
theorem up_len {n : Nat} : ∀ {xs : List Int} {lo : Int}, Up xs → (∀ x ∈ xs, lo ≤ x ∧ x < lo + n) → xs.length ≤ n
  | [], _, _, _ => Nat.zero_le _
  | x :: xs, lo, h, hb => by
    have h' := List.pairwise_cons.mp h
    have hx := hb x List.mem_cons_self
    have := up_len (n := (lo + n - (x + 1)).toNat) (lo := x + 1) h'.2 fun y hy => by
      have := h'.1 y hy; have := hb y (List.mem_cons_of_mem _ hy); omega
    rw [List.length_cons]; omega
/-- a row within bounds -/
structure RowB (many : Int) (w : Nat) (r : Row) : Prop where
  ok : RowOk many w r
  nb : ∀ n ∈ r.2.2, 0 ≤ n ∧ n < 1000
theorem RowB.sum {many : Int} {w : Nat} {a b : Row} (ha : RowB many w a) (hb : RowB many w b) : RowB many w (rowSum a b) := by
  refine ⟨ha.ok.sum hb.ok, fun n hn => ?_⟩
  have h := (mem_syI ha.ok.un hb.ok.un n).mp hn
  by_cases z : n ∈ a.2.2
  · exact ha.nb n z
  · by_cases z2 : n ∈ b.2.2
    · exact hb.nb n z2
    · exact absurd (by simp [z, z2]) h
theorem RowB.l1 {many : Int} {w : Nat} {a : Row} (ha : RowB many w a) (hm : many ≤ 1000) : a.1.length ≤ 1000 :=
  up_len (n := 1000) (lo := 0) ha.ok.us fun x hx => by have := ha.ok.sb x hx; omega
theorem RowB.l2 {many : Int} {w : Nat} {a : Row} (ha : RowB many w a) : a.2.2.length ≤ 1000 :=
  up_len (n := 1000) (lo := 0) ha.ok.un fun x hx => by have := ha.nb x hx; omega
theorem restStep_B {many : Int} {w : Nat} {r : Row} {p : Int × Row} (hr : RowB many w r) (hp : RowB many w p.2) : RowB many w (restStep r p) := by
  unfold restStep
  split
  · exact hr.sum hp
  · exact hr
theorem restF_B {many : Int} {w : Nat} : ∀ {rows : Rows} {r : Row}, (∀ p ∈ rows, RowB many w p.2) → RowB many w r → RowB many w (restF rows r)
  | [], r, _, hr => hr
  | p :: rows, r, h, hr => by
    rw [restF_cons]
    exact restF_B (fun q hq => h q (List.mem_cons_of_mem _ hq)) (restStep_B hr (h p List.mem_cons_self))
theorem restF_snoc {rows : Rows} {n : Nat} {p : Int × Row} (h : rows[n]? = some p) (r : Row) : restF (rows.take (n + 1)) r = restStep (restF (rows.take n) r) p := by
  unfold restF
  rw [List.take_add_one, h]
  show (rows.take n ++ [p]).foldl restStep r = _
  rw [List.foldl_append]; rfl
/-- a span that is read -/
def spanO (Cs : Addr) (rows : Rows) : Ro where
  at_ := fun G H v => ∃ s dx A, v = .ref s ∧ H s = some (.ins Cs dx [("rows", .ref A)]) ∧ ClAt G H A (.dic (rowsD rows))
  mono := fun ⟨s, dx, A, h1, h2, h3⟩ g e => ⟨s, dx, A, h1, e _ _ h2, h3.mono g e⟩
theorem Env.spanO {F : Fr} {G H : Hp} {σ : L2.St} {Γ : List Kd} {Fs : Nat → Addr → Prop} {Cs : Addr} {rows : Rows} (E : Env F G H σ (.arg (.obj (spanO Cs rows)) :: Γ) Fs) : ∃ s dx A, Env F G H σ (.arg (.obj (roDict (.ref s) s Cs dx [("rows", .ref A)] A (rowsD rows))) :: Γ) Fs := by
  obtain ⟨h0, v, hv, s, dx, A, rfl, h1, h2⟩ := E.sl 0 _ rfl
  refine ⟨s, dx, A, E.gh, E.bh, E.g0, E.go, E.len, fun i k hk => ?_, E.dis, E.fp⟩
  cases i with
  | zero =>
    obtain rfl : _ = k := by simpa using hk
    refine ⟨h0, _, hv, rfl, fun p hp => ?_⟩
    rcases List.mem_cons.mp hp with z | z
    · subst z; exact h1
    · rw [List.mem_singleton] at z; subst z; exact h2
  | succ i => exact E.sl (i + 1) k (by simpa using hk)
theorem Env.spanOi {F : Fr} {G H : Hp} {σ : L2.St} {Γ : List Kd} {Fs : Nat → Addr → Prop} {Cs : Addr} {rows : Rows} {i : Nat} (E : Env F G H σ Γ Fs) (hi : Γ[i]? = some (.arg (.obj (Rn.spanO Cs rows)))) : ∃ s dx A, Env F G H σ (Γ.set i (.arg (.obj (roDict (.ref s) s Cs dx [("rows", .ref A)] A (rowsD rows))))) Fs := by
  obtain ⟨h0, v, hv, s, dx, A, rfl, h1, h2⟩ := E.sl i _ hi
  refine ⟨s, dx, A, E.rk hi ⟨h0, _, hv, rfl, fun p hp => ?_⟩⟩
  rcases List.mem_cons.mp hp with z | z
  · subst z; exact h1
  · rw [List.mem_singleton] at z; subst z; exact h2
theorem dlook_at {d : PyData} {k : Int} : ∀ {kvs : List (Int × PyData)} {n : Nat}, (kvs.map (·.1)).Nodup → kvs[n]? = some (k, d) → dlook kvs k = some d
  | [], n, _, h => by simp at h
  | p :: r, 0, _, h => by
    obtain rfl : p = (k, d) := by simpa using h
    simp [dlook, List.find?_cons]
  | p :: r, n + 1, hn, h => by
    have hn' := List.nodup_cons.mp (show (p.1 :: r.map (·.1)).Nodup from hn)
    have h' : r[n]? = some (k, d) := by simpa using h
    have hne : p.1 ≠ k := fun z => hn'.1 (List.mem_map.mpr ⟨_, List.mem_of_getElem? h', z.symm⟩)
    have := dlook_at hn'.2 h'
    unfold dlook at this ⊢
    rw [List.find?_cons_of_neg (by simp [hne])]
    exact this
theorem any_key {k : Int} {kvs : List (Int × PyData)} : (kvs.any fun p => decide (p.1 = k)) = true ↔ k ∈ kvs.map (·.1) := by
  rw [List.any_eq_true]
  constructor
  · rintro ⟨p, hp, h⟩; exact List.mem_map.mpr ⟨p, hp, of_decide_eq_true h⟩
  · intro h
    obtain ⟨p, hp, e⟩ := List.mem_map.mp h
    exact ⟨p, hp, decide_eq_true e⟩
theorem map_repl {d d0 : PyData} {k : Int} : ∀ {kvs : List (Int × PyData)} {n : Nat}, (kvs.map (·.1)).Nodup → kvs[n]? = some (k, d0) → kvs.map (fun p => if p.1 = k then (p.1, d) else p) = kvs.set n (k, d)
  | [], n, _, h => by simp at h
  | p :: r, 0, hn, h => by
    obtain rfl : p = (k, d0) := by simpa using h
    have hn' := List.nodup_cons.mp (show (k :: r.map (·.1)).Nodup from hn)
    rw [List.map_cons, if_pos rfl, List.set_cons_zero]
    congr 1
    conv => rhs; rw [← List.map_id r]
    refine List.map_congr_left fun q hq => ?_
    rw [if_neg (fun z => hn'.1 (List.mem_map.mpr ⟨q, hq, z⟩))]; rfl
  | p :: r, n + 1, hn, h => by
    have hn' := List.nodup_cons.mp (show (p.1 :: r.map (·.1)).Nodup from hn)
    have h' : r[n]? = some (k, d0) := by simpa using h
    have hne : p.1 ≠ k := fun z => hn'.1 (List.mem_map.mpr ⟨_, List.mem_of_getElem? h', z.symm⟩)
    rw [List.map_cons, if_neg hne, List.set_cons_succ, map_repl hn'.2 h']
theorem dput_at {d d0 : PyData} {k : Int} {kvs : List (Int × PyData)} {n : Nat} (hn : (kvs.map (·.1)).Nodup) (h : kvs[n]? = some (k, d0)) : dput kvs k d = kvs.set n (k, d) := by
  unfold dput
  rw [if_pos (any_key.mpr (List.mem_map.mpr ⟨_, List.mem_of_getElem? h, rfl⟩))]
  exact map_repl hn h
theorem dput_new {d : PyData} {k : Int} {kvs : List (Int × PyData)} (h : k ∉ kvs.map (·.1)) : dput kvs k d = kvs ++ [(k, d)] := by
  unfold dput
  rw [if_neg (fun z => h (any_key.mp z))]
theorem rowsD_keys (rows : Rows) : (rowsD rows).map (·.1) = rows.map (·.1) := by rw [List.map_map]; rfl
def takeG (r : Row) (l : Int) (p : Int × Row) : Int × Row := if l ∈ p.2.1 then (p.1, rowSum p.2 r) else p
def takeN (rows : Rows) (r : Row) (l : Int) (n : Nat) : Rows := (rows.take n).map (takeG r l) ++ rows.drop n
theorem takeG_key {r : Row} {l : Int} {p : Int × Row} : (takeG r l p).1 = p.1 := by unfold takeG; split <;> rfl
theorem takeN_keys (rows : Rows) (r : Row) (l : Int) (n : Nat) : (takeN rows r l n).map (·.1) = rows.map (·.1) := by
  unfold takeN
  rw [List.map_append, List.map_map]
  conv => rhs; rw [← List.take_append_drop n rows, List.map_append]
  congr 1
  exact List.map_congr_left fun p _ => takeG_key
theorem takeN_get {rows : Rows} {r : Row} {l : Int} {n : Nat} {p : Int × Row} (h : rows[n]? = some p) : (takeN rows r l n)[n]? = some p := by
  have hn := (List.getElem?_eq_some_iff.mp h).1
  unfold takeN
  have hl : ((rows.take n).map (takeG r l)).length = n := by rw [List.length_map, List.length_take]; omega
  rw [List.getElem?_append_right (by omega), hl, Nat.sub_self, List.getElem?_drop, Nat.add_zero]; exact h
theorem takeN_succ {rows : Rows} {r : Row} {l : Int} {n : Nat} {p : Int × Row} (h : rows[n]? = some p) : takeN rows r l (n + 1) = (takeN rows r l n).set n (takeG r l p) := by
  have hn := (List.getElem?_eq_some_iff.mp h).1
  have hl : ((rows.take n).map (takeG r l)).length = n := by rw [List.length_map, List.length_take]; omega
  unfold takeN
  rw [List.set_append_right _ _ (by omega), hl, Nat.sub_self, List.take_add_one, h, List.map_append, List.append_assoc]
  congr 1
  have e : rows.drop n = p :: rows.drop (n + 1) := by
    rw [List.drop_eq_getElem_cons hn]
    congr 1
    rw [List.getElem?_eq_getElem hn] at h
    exact Option.some.inj h
  rw [e]; rfl
theorem takeN_all (rows : Rows) (r : Row) (l : Int) : takeN rows r l rows.length ++ [(l, r)] = takeF rows r l := by
  unfold takeN takeF
  rw [List.take_length, List.drop_length, List.append_nil]; rfl
theorem takeN_len (rows : Rows) (r : Row) (l : Int) (n : Nat) : (takeN rows r l n).length = rows.length := by
  have := congrArg List.length (takeN_keys rows r l n)
  rw [List.length_map, List.length_map] at this; exact this
/-- an own span -/
def spanR (Cs : Addr) (rows : Rows) : Rs where
  at_ := fun G H v P => ∃ s dx A, v = .ref s ∧ (rsH [(s, .ins Cs dx [("rows", .ref A)]), (A, .dic (rowsD rows))]).at_ G H v P
  loc := fun ⟨s, dx, A, h1, h2⟩ g e => ⟨s, dx, A, h1, (rsH _).loc h2 g e⟩
abbrev spanC (Cs s dx A : Addr) (rows : Rows) : List (Addr × Cl) := [(s, .ins Cs dx [("rows", .ref A)]), (A, .dic (rowsD rows))]
theorem Env.spanR {F : Fr} {G H : Hp} {σ : L2.St} {Γ : List Kd} {Fs : Nat → Addr → Prop} {Cs : Addr} {rows : Rows} {i : Nat} {v : V} (E : Env F G H σ Γ Fs) (hi : Γ[i]? = some (.res v (spanR Cs rows))) : ∃ s dx A, v = .ref s ∧ Env F G H σ (Γ.set i (.res v (rsH (spanC Cs s dx A rows)))) Fs := by
  obtain ⟨h0, s, dx, A, h1, h2⟩ := E.sl i _ hi
  exact ⟨s, dx, A, h1, E.rk hi ⟨h0, h2⟩⟩
theorem Env.spanE {F : Fr} {G H : Hp} {σ : L2.St} {Γ : List Kd} {Fs : Nat → Addr → Prop} {Cs s dx A : Addr} {rows : Rows} {i : Nat} (E : Env F G H σ Γ Fs) (hi : Γ[i]? = some (.res (.ref s) (rsH (spanC Cs s dx A rows)))) : Env F G H σ (Γ.set i (.res (.ref s) (Rn.spanR Cs rows))) Fs := by
  obtain ⟨h0, h2⟩ := E.sl i _ hi
  exact E.rk hi ⟨h0, s, dx, A, rfl, h2⟩
theorem spanR_O {Cs : Addr} {rows : Rows} {v : V} : Rd_ v (spanR Cs rows) (spanO Cs rows) := fun G H B P ⟨s, dx, A, h1, h2⟩ h3 => by
  have h4 := h2.2.2 (s, .ins Cs dx [("rows", .ref A)]) (by simp)
  have h5 := h2.2.2 (A, .dic (rowsD rows)) (by simp)
  refine ⟨s, dx, A, h1, (h3 s ((h2.1 s).mpr (by simp [keysC]))).trans h4, ?_⟩
  exact ClAt.loc (c := .dic (rowsD rows)) h5 (.refl G) (h3 A ((h2.1 A).mpr (by simp [keysC])))
def wordS : Nat → Str
  | 0 => "new"
  | 1 => "known"
  | 2 => "against"
  | _ => "out"
abbrev wordD (p : Nat × List Int) : PyData := .tuple [.str (wordS p.1), .list (p.2.map .int)]
theorem IntsOf.self {ns : List Int} : IntsOf (ns.map .int) ns := by
  induction ns with
  | nil => exact .nil
  | cons n r ih => exact .cons ih
theorem any_ne {v : List Int} : (v.any fun n => n != 0) = true ↔ ¬ ∀ b ∈ v, b = 0 := by
  rw [List.any_eq_true]
  constructor
  · rintro ⟨b, hb, h⟩ z; rw [z b hb] at h; exact absurd h (by decide)
  · intro h
    refine Classical.byContradiction fun z => h fun b hb => Classical.byContradiction fun hz => z ⟨b, hb, by simpa using hz⟩
/-! ## parcels judged one after another -/
def sftR (ps : Pcs) : Nat → Rows
  | 0 => []
  | n + 1 => judR (sftR ps n) (ps.getD n ([], [])).1 (ps.getD n ([], [])).2 n
def sftW (ps : Pcs) (n : Nat) : Nat × List Int := judW (sftR ps n) (ps.getD n ([], [])).1 (ps.getD n ([], [])).2 n
def PsOk (many : Int) (w : Nat) (ps : Pcs) : Prop := ∀ q ∈ ps, Up q.1 ∧ (∀ x ∈ q.1, 0 ≤ x ∧ x < many) ∧ Bits w q.2
theorem getD_n {ps : Pcs} {n : Nat} {q : List Int × List Int} (h : ps[n]? = some q) : ps.getD n ([], []) = q := by rw [List.getD_eq_getElem?_getD, h]; rfl
theorem sft_inv {many : Int} {w : Nat} {ps : Pcs} (h : PsOk many w ps) : ∀ n, n ≤ ps.length → ∃ nws kept, SpanInv many w (ps.take n) nws kept (sftR ps n) ∧ ∀ m, m < n → (sftW ps m).1 ≠ 2 → (m : Int) ∈ kept
  | 0, _ => ⟨[], [], by rw [List.take_zero]; exact .start, fun m hm => by omega⟩
  | n + 1, hn => by
    obtain ⟨nws, kept, I, hk⟩ := sft_inv h n (by omega)
    have hlt : n < ps.length := hn
    have hg : ps[n]? = some ps[n] := List.getElem?_eq_getElem hlt
    have hq := h ps[n] (List.getElem_mem hlt)
    have eg : ps.getD n ([], []) = ps[n] := getD_n hg
    have lt : (ps.take n).length = n := by rw [List.length_take]; omega
    have st := I.step (P := ps[n].1) (V := ps[n].2) hq.1 hq.2.1 hq.2.2
    rw [lt] at st
    refine ⟨if (judW (sftR ps n) ps[n].1 ps[n].2 n).1 = 0 then nws ++ [(n : Int)] else nws, if (judW (sftR ps n) ps[n].1 ps[n].2 n).1 = 2 then kept else kept ++ [(n : Int)], ?_⟩
    · rw [show sftR ps (n + 1) = judR (sftR ps n) ps[n].1 ps[n].2 n from by show judR _ (ps.getD n ([], [])).1 (ps.getD n ([], [])).2 n = _; rw [eg], List.take_add_one, hg]
      refine ⟨st, fun m hm hw => ?_⟩
      rcases Nat.lt_or_ge m n with z | z
      · have := hk m z hw
        split
        · exact this
        · exact List.mem_append_left _ this
      · obtain rfl : m = n := by omega
        have e2 : (judW (sftR ps m) ps[m].1 ps[m].2 m).1 ≠ 2 := by
          have : sftW ps m = judW (sftR ps m) ps[m].1 ps[m].2 m := by unfold sftW; rw [eg]
          rw [← this]; exact hw
        rw [if_neg e2]
        exact List.mem_append_right _ (List.mem_singleton.mpr rfl)
theorem SpanInv.rowB {many : Int} {w : Nat} {ps : Pcs} {nws kept : List Int} {rows : Rows} (I : SpanInv many w ps nws kept rows) (hl : ps.length ≤ 1000) : ∀ p ∈ rows, RowB many w p.2 := fun p hp =>
  ⟨I.ok.ok p hp, fun n hn => by have := I.nw n (I.nums p hp n hn); omega⟩
theorem SpanInv.rlen {many : Int} {w : Nat} {ps : Pcs} {nws kept : List Int} {rows : Rows} (I : SpanInv many w ps nws kept rows) (hl : ps.length ≤ 900) : rows.length < 1000 := by
  have := up_len (n := ps.length) (lo := 0) I.nup fun x hx => by have := I.nw x hx; omega
  rw [I.len] at this; omega
/-- the first that speaks against -/
def sftA (ps : Pcs) : Option Nat := (List.range ps.length).find? fun n => decide ((sftW ps n).1 = 2)
def quarF (ps : Pcs) : Option (List Int) := (sftA ps).map fun n => (sftW ps n).2 ++ [(n : Int)]
def quarD (o : Option (List Int)) : PyData := match o with
  | none => .none
  | some ns => .list (ns.map .int)
theorem sftA_none {ps : Pcs} (h : ∀ m, m < ps.length → (sftW ps m).1 ≠ 2) : sftA ps = none := by
  unfold sftA
  rw [List.find?_eq_none]
  intro m hm
  have := h m (List.mem_range.mp hm)
  simpa using this
theorem sftA_some {ps : Pcs} {n : Nat} (hn : n < ps.length) (h : ∀ m, m < n → (sftW ps m).1 ≠ 2) (h2 : (sftW ps n).1 = 2) : sftA ps = some n := by
  unfold sftA
  rw [List.find?_eq_some_iff_getElem]
  refine ⟨decide_eq_true h2, n, by rw [List.length_range]; exact hn, by simp, fun j hj => ?_⟩
  rw [List.getElem_range]
  simpa using h j hj
theorem sftA_spec {ps : Pcs} {n : Nat} (h : sftA ps = some n) : n < ps.length ∧ (∀ m, m < n → (sftW ps m).1 ≠ 2) ∧ (sftW ps n).1 = 2 := by
  unfold sftA at h
  rw [List.find?_eq_some_iff_getElem] at h
  obtain ⟨h1, i, hi, e, h2⟩ := h
  rw [List.getElem_range] at e
  subst e
  rw [List.length_range] at hi
  refine ⟨hi, fun m hm => ?_, of_decide_eq_true h1⟩
  have := h2 m hm
  rw [List.getElem_range] at this
  simpa using this
theorem sftA_no {ps : Pcs} (h : sftA ps = none) : ∀ m, m < ps.length → (sftW ps m).1 ≠ 2 := fun m hm => by
  unfold sftA at h
  rw [List.find?_eq_none] at h
  have := h m (List.mem_range.mpr hm)
  simpa using this
def sftE (ps : Pcs) : Rows := sftR ps (match sftA ps with | some n => n + 1 | none => ps.length)
def loadN (rows : Rows) (many wide : Int) (n : Nat) : List (List Int) := (rows.take n).foldl (fun L p => L.set p.1.toNat p.2.2.1) (List.replicate many.toNat (List.replicate wide.toNat 0))
def loadF (rows : Rows) (many wide : Int) : List (List Int) := loadN rows many wide rows.length
theorem loadN_len (rows : Rows) (many wide : Int) (n : Nat) : (loadN rows many wide n).length = many.toNat := by
  unfold loadN
  generalize rows.take n = l
  have : ∀ (l : Rows) (L : List (List Int)), (l.foldl (fun L p => L.set p.1.toNat p.2.2.1) L).length = L.length := fun l => by
    induction l with
    | nil => intro L; rfl
    | cons p r ih => intro L; rw [List.foldl_cons, ih, List.length_set]
  rw [this, List.length_replicate]
theorem loadN_succ {rows : Rows} {many wide : Int} {n : Nat} {p : Int × Row} (h : rows[n]? = some p) : loadN rows many wide (n + 1) = (loadN rows many wide n).set p.1.toNat p.2.2.1 := by
  unfold loadN
  rw [List.take_add_one, h]
  show (rows.take n ++ [p]).foldl _ _ = _
  rw [List.foldl_append]; rfl
def fitD (ps : Pcs) (many wide : Int) : PyData := match sftA ps with
  | some _ => .none
  | none => .list ((loadF (sftE ps) many wide).map tupI)
def loadI (c m w : Int) : List (List Int) := (List.range m.toNat).map fun (j : Nat) => bitsI (c + 101 * (j : Int)) w
def turnAt (v : List Int) (c : Int) : Nat := (mixI c 10133 v.length).toNat
def turnI (v : List Int) (c : Int) : List Int := v.take (turnAt v c) ++ [1 - v.getD (turnAt v c) 0] ++ v.drop (turnAt v c + 1)
def pickI (before : Pcs) (c q : Int) : List Int × List Int := before.getD (mixI c q before.length).toNat ([], [])
def someI (before : Pcs) (c : Int) : Pcs := ([10141, 10151, 10159] : List Int).map (pickI before c)
def lparI (c : Int) (L : List (List Int)) (before : Pcs) : List Int × List Int :=
  if 4 < mixI c 10139 8 ∧ before ≠ [] then
    (oddI ((someI before c).map (·.1)) L.length, if mixI c 10139 8 = 7 then turnI (sumI ((someI before c).map (·.2)) (L.getD 0 []).length) c else sumI ((someI before c).map (·.2)) (L.getD 0 []).length)
  else if mixI c 10139 8 = 0 then (setI c L.length, bitsI (c + 7) (L.getD 0 []).length)
  else if mixI c 10139 8 = 1 then ([], [sumI [] (L.getD 0 []).length, bitsI c (L.getD 0 []).length].getD (mixI c 10163 2).toNat [])
  else (setI c L.length, sumI ((setI c L.length).map fun p => L.getD p.toNat []) (L.getD 0 []).length)
theorem mixI_bd {c q n : Int} (h : 0 < n) : 0 ≤ mixI c q n ∧ mixI c q n < n := ⟨Int.emod_nonneg _ (by omega), Int.emod_lt_of_pos _ h⟩
structure LoadOk (many : Int) (w : Nat) (L : List (List Int)) : Prop where
  len : (L.length : Int) = many
  bits : ∀ v ∈ L, Bits w v
  ne : L ≠ []
theorem LoadOk.w0 {many : Int} {w : Nat} {L : List (List Int)} (h : LoadOk many w L) : (L.getD 0 []).length = w := by
  cases hq : L with
  | nil => exact absurd hq h.ne
  | cons v r => exact (h.bits v (by rw [hq]; exact List.mem_cons_self)).1
theorem loadI_ok {c m w : Int} (hm : 1 ≤ m) : LoadOk m w.toNat (loadI c m w) := by
  refine ⟨by unfold loadI; rw [List.length_map, List.length_range]; omega, fun v hv => ?_, fun z => ?_⟩
  · obtain ⟨j, _, rfl⟩ := List.mem_map.mp hv
    exact bitsI_bits
  · have := congrArg List.length z
    unfold loadI at this
    rw [List.length_map, List.length_range] at this
    simp at this; omega
theorem turn_bits {w : Nat} {v : List Int} {c : Int} (h : Bits w v) (hw : 1 ≤ w) : Bits w (turnI v c) := by
  have hb := mixI_bd (c := c) (q := 10133) (n := v.length) (by have := h.1; omega)
  have ht : turnAt v c < v.length := by unfold turnAt; omega
  refine ⟨?_, fun b hb => ?_⟩
  · unfold turnI
    rw [List.length_append, List.length_append, List.length_take, List.length_drop, List.length_singleton, ← h.1]
    omega
  · unfold turnI at hb
    rcases List.mem_append.mp hb with z | z
    · rcases List.mem_append.mp z with z | z
      · exact h.2 b (List.mem_of_mem_take z)
      · rw [List.mem_singleton] at z
        have := bits_getD h (turnAt v c)
        omega
    · exact h.2 b (List.mem_of_mem_drop z)
abbrev POk (many : Int) (w : Nat) (q : List Int × List Int) : Prop := Up q.1 ∧ (∀ x ∈ q.1, 0 ≤ x ∧ x < many) ∧ Bits w q.2
theorem sumI_bitsN (vs : List (List Int)) (w : Nat) : Bits w (sumI vs (w : Int)) := by have := sumI_bits vs (w : Int); rw [Int.toNat_natCast] at this; exact this
theorem setI_ok {c n : Int} (hn : 1 ≤ n) : Up (setI c n) ∧ ∀ x ∈ setI c n, 0 ≤ x ∧ x < n := by
  have h := risesF_iff.mp (setI_rises (c := c) hn)
  exact ⟨h.1, fun x hx => by have := h.2 x hx; omega⟩
theorem lparI_ok {many : Int} {w : Nat} {c : Int} {L : List (List Int)} {before : Pcs} (hL : LoadOk many w L) (hm : 1 ≤ many) (hw : 1 ≤ w) : POk many w (lparI c L before) := by
  have w0 := hL.w0
  have hl := hL.len
  unfold lparI
  rw [w0, hl]
  split
  · refine ⟨oddI_up _ _, fun x hx => oddI_bd hx, ?_⟩
    show Bits w (if _ then _ else _)
    split
    · exact turn_bits (sumI_bitsN _ _) hw
    · exact sumI_bitsN _ _
  · split
    · refine ⟨(setI_ok hm).1, (setI_ok hm).2, ?_⟩
      have := bitsI_bits (c := c + 7) (w := (w : Int))
      rw [Int.toNat_natCast] at this; exact this
    · split
      · refine ⟨.nil, (fun x hx => nomatch hx), ?_⟩
        have hb := bitsI_bits (c := c) (w := (w : Int))
        rw [Int.toNat_natCast] at hb
        have h2 := mixI_bd (c := c) (q := 10163) (n := 2) (by decide)
        have : (mixI c 10163 2).toNat = 0 ∨ (mixI c 10163 2).toNat = 1 := by omega
        rcases this with z | z <;> rw [z]
        · exact sumI_bitsN _ _
        · exact hb
      · exact ⟨(setI_ok hm).1, (setI_ok hm).2, sumI_bitsN _ _⟩
end Rn

namespace Rn
open PySem PySem.Spec PyProof.Rows L2
def top (i : Nat) : Stmt := PySem.Challenge.pw_rainparcels_k04_parcels_written.main.body.getD i (.Pass ⟨0, 0, 0, 0⟩)
abbrev sRises : Stmt := top 11
theorem scRises : FnScope ["places", "many", "last", "place"] ["places", "many"] (defScope sRises) := ⟨rfl, rfl, rfl, by decide +kernel, rfl, by decide +kernel, by decide +kernel⟩
abbrev sShown : Stmt := top 13
theorem scShown : FnScope ["places", "value", "place", "words", "bit", "bits"] ["places", "value"] (defScope sShown) := ⟨rfl, rfl, rfl, by decide +kernel, rfl, by decide +kernel, by decide +kernel⟩
abbrev sRead : Stmt := top 14
theorem scRead : FnScope ["text", "many", "wide", "words"] ["text", "many", "wide"] (defScope sRead) := ⟨rfl, rfl, rfl, by decide +kernel, rfl, by decide +kernel, by decide +kernel⟩
abbrev sPlacesOf : Stmt := top 15
theorem scPlacesOf : FnScope ["words", "many", "place", "known", "word", "places"] ["words", "many"] (defScope sPlacesOf) := ⟨rfl, rfl, rfl, by decide +kernel, rfl, by decide +kernel, by decide +kernel⟩
abbrev sBitsOf : Stmt := top 16
theorem scBitsOf : FnScope ["word", "wide", "sign"] ["word", "wide"] (defScope sBitsOf) := ⟨rfl, rfl, rfl, by decide +kernel, rfl, by decide +kernel, by decide +kernel⟩
abbrev sWhole : Stmt := top 18
theorem scWhole : FnScope ["_law_found"] ["_law_found"] (defScope sWhole) := ⟨rfl, rfl, rfl, by decide +kernel, rfl, by decide +kernel, by decide +kernel⟩
abbrev sCell : Stmt := top 19
theorem scCell : FnScope ["_law_script", "_law_k"] ["_law_script", "_law_k"] (defScope sCell) := ⟨rfl, rfl, rfl, by decide +kernel, rfl, by decide +kernel, by decide +kernel⟩
abbrev sMix : Stmt := top 20
theorem scMix : FnScope ["_law_cell", "_law_prime", "_law_many"] ["_law_cell", "_law_prime", "_law_many"] (defScope sMix) := ⟨rfl, rfl, rfl, by decide +kernel, rfl, by decide +kernel, by decide +kernel⟩
abbrev sMixed : Stmt := top 21
theorem scMixed : FnScope ["_law_cell", "_law_k", "_law_many", "_law_m"] ["_law_cell", "_law_k", "_law_many"] (defScope sMixed) := ⟨rfl, rfl, rfl, by decide +kernel, rfl, by decide +kernel, by decide +kernel⟩
abbrev sBits : Stmt := top 22
theorem scBits : FnScope ["_law_cell", "_law_wide", "_law_k"] ["_law_cell", "_law_wide"] (defScope sBits) := ⟨rfl, rfl, rfl, by decide +kernel, rfl, by decide +kernel, by decide +kernel⟩
abbrev sSet : Stmt := top 23
theorem scSet : FnScope ["_law_cell", "_law_many", "_law_way", "_law_place"] ["_law_cell", "_law_many"] (defScope sSet) := ⟨rfl, rfl, rfl, by decide +kernel, rfl, by decide +kernel, by decide +kernel⟩
abbrev sSizes : Stmt := top 24
theorem scSizes : FnScope ["_law_one", "_law_other", "_law_many", "_law_wide"] ["_law_one", "_law_other"] (defScope sSizes) := ⟨rfl, rfl, rfl, by decide +kernel, rfl, by decide +kernel, by decide +kernel⟩
abbrev sLRefused : Stmt := top 25
theorem scLRefused : FnScope ["_law_text", "_law_many", "_law_wide", "e", "_law_some"] ["_law_text", "_law_many", "_law_wide"] (defScope sLRefused) := ⟨rfl, rfl, rfl, by decide +kernel, rfl, by decide +kernel, by decide +kernel⟩
abbrev sSpoilt : Stmt := top 26
theorem scSpoilt : FnScope ["_law_words", "_law_way", "_law_at", "_law_many", "_law_head", "_law_tail", "_law_some"] ["_law_words", "_law_way", "_law_at", "_law_many"] (defScope sSpoilt) := ⟨rfl, rfl, rfl, by decide +kernel, rfl, by decide +kernel, by decide +kernel⟩
abbrev sKinds : Stmt := top 27
theorem scKinds : FnScope ["_law_found", "_law_one"] ["_law_found"] (defScope sKinds) := ⟨rfl, rfl, rfl, by decide +kernel, rfl, by decide +kernel, by decide +kernel⟩
abbrev sLaw : Stmt := top 28
theorem scLaw : FnScope ["_law_script", "_law_many", "_law_wide", "_law_places", "_law_value", "_law_place", "_law_bit", "_law_words", "_law_copied", "_law_text", "_law_found", "_law_way", "_law_at"] ["_law_script"] (defScope sLaw) := ⟨rfl, rfl, rfl, by decide +kernel, rfl, by decide +kernel, by decide +kernel⟩
def R_whole : List Ar → PyData → Prop := fun ars d => ∃ (a : PyData), ars = [.dat a] ∧ d = .bool (isIntD a)
theorem c_whole {X : Cx} {M : Md} {F : Fr} {N : List Str} {sc : Scope} {kk k : Nat} {Γ : List Kd} {p pos : Pos} {a : PyData} (C : Cok X M F N sc kk) (h : FnA M k "_law_whole" R_whole) (hk : k ≤ kk) (hg : sc.names.lookup ("_law_whole" : Str) = some .globalImplicit) {e0 : Expr} (a0 : EP X F Γ e0 a) (l0 : plainE e0 = true)  :
    EP X F Γ (.Call (.Name "_law_whole" p) [e0] [] pos) (.bool (isIntD a)) := by
  exact ep_call C h hk hg (arp_dat a0 arp_nil l0) ⟨a, rfl, rfl⟩ (l0) rfl (by decide +kernel)
def R_cell : List Ar → PyData → Prop := fun ars d => ∃ (ns : List Int) (j : Int), ars = [.scr ns, .dat (.int j)] ∧ (0 ≤ j) ∧ d = .int (cellAt ns j)
theorem c_cell {X : Cx} {M : Md} {F : Fr} {N : List Str} {sc : Scope} {kk k : Nat} {Γ : List Kd} {p pos : Pos} {ns : List Int} {j : Int} (C : Cok X M F N sc kk) (h : FnA M k "_law_cell_at" R_cell) (hk : k ≤ kk) (hg : sc.names.lookup ("_law_cell_at" : Str) = some .globalImplicit) {x0 : Str} {i0 : Nat} {p0 : Pos} (a0 : Sel N Γ x0 i0 (.arg (.scr ns))) (v0 : Vis sc x0) (d0 : (x0 == ("__debug__" : Str)) = false) (c0 : (x0 == ("__classdict__" : Str)) = false) {e1 : Expr} (a1 : EP X F Γ e1 (.int j)) (l1 : plainE e1 = true) (h0 : 0 ≤ j) :
    EP X F Γ (.Call (.Name "_law_cell_at" p) [.Name x0 p0, e1] [] pos) (.int (cellAt ns j)) := by
  exact ep_call C h hk hg (arp_arg C a0 v0 (arp_dat a1 arp_nil l1) d0 c0) ⟨ns, j, rfl, h0, rfl⟩ (rfl) (by simp only [List.all_cons, List.all_nil, Bool.and_true, Bool.and_eq_true]; exact l1) (by decide +kernel)
def R_mix : List Ar → PyData → Prop := fun ars d => ∃ (c : Int) (q : Int) (n : Int), ars = [.dat (.int c), .dat (.int q), .dat (.int n)] ∧ (0 < q) ∧ (0 < n) ∧ d = .int (mixI c q n)
theorem c_mix {X : Cx} {M : Md} {F : Fr} {N : List Str} {sc : Scope} {kk k : Nat} {Γ : List Kd} {p pos : Pos} {c : Int} {q : Int} {n : Int} (C : Cok X M F N sc kk) (h : FnA M k "_law_mix" R_mix) (hk : k ≤ kk) (hg : sc.names.lookup ("_law_mix" : Str) = some .globalImplicit) {e0 : Expr} (a0 : EP X F Γ e0 (.int c)) (l0 : plainE e0 = true) {e1 : Expr} (a1 : EP X F Γ e1 (.int q)) (l1 : plainE e1 = true) {e2 : Expr} (a2 : EP X F Γ e2 (.int n)) (l2 : plainE e2 = true) (h0 : 0 < q) (h1 : 0 < n) :
    EP X F Γ (.Call (.Name "_law_mix" p) [e0, e1, e2] [] pos) (.int (mixI c q n)) := by
  exact ep_call C h hk hg (arp_dat a0 (arp_dat a1 (arp_dat a2 arp_nil l2) l1) l0) ⟨c, q, n, rfl, h0, h1, rfl⟩ (l0) (by simp only [List.all_cons, List.all_nil, Bool.and_true, Bool.and_eq_true]; exact ⟨l1, l2⟩) (by decide +kernel)
def R_mixed : List Ar → PyData → Prop := fun ars d => ∃ (c : Int) (j : Int) (n : Int), ars = [.dat (.int c), .dat (.int j), .dat (.int n)] ∧ (0 < n) ∧ d = .int (mixedI c j n)
theorem c_mixed {X : Cx} {M : Md} {F : Fr} {N : List Str} {sc : Scope} {kk k : Nat} {Γ : List Kd} {p pos : Pos} {c : Int} {j : Int} {n : Int} (C : Cok X M F N sc kk) (h : FnA M k "_law_mixed" R_mixed) (hk : k ≤ kk) (hg : sc.names.lookup ("_law_mixed" : Str) = some .globalImplicit) {e0 : Expr} (a0 : EP X F Γ e0 (.int c)) (l0 : plainE e0 = true) {e1 : Expr} (a1 : EP X F Γ e1 (.int j)) (l1 : plainE e1 = true) {e2 : Expr} (a2 : EP X F Γ e2 (.int n)) (l2 : plainE e2 = true) (h0 : 0 < n) :
    EP X F Γ (.Call (.Name "_law_mixed" p) [e0, e1, e2] [] pos) (.int (mixedI c j n)) := by
  exact ep_call C h hk hg (arp_dat a0 (arp_dat a1 (arp_dat a2 arp_nil l2) l1) l0) ⟨c, j, n, rfl, h0, rfl⟩ (l0) (by simp only [List.all_cons, List.all_nil, Bool.and_true, Bool.and_eq_true]; exact ⟨l1, l2⟩) (by decide +kernel)
def R_bits : List Ar → PyData → Prop := fun ars d => ∃ (c : Int) (w : Int), ars = [.dat (.int c), .dat (.int w)] ∧ (0 ≤ w) ∧ (w ≤ 1000) ∧ d = tupI (bitsI c w)
theorem c_bits {X : Cx} {M : Md} {F : Fr} {N : List Str} {sc : Scope} {kk k : Nat} {Γ : List Kd} {p pos : Pos} {c : Int} {w : Int} (C : Cok X M F N sc kk) (h : FnA M k "_law_bits" R_bits) (hk : k ≤ kk) (hg : sc.names.lookup ("_law_bits" : Str) = some .globalImplicit) {e0 : Expr} (a0 : EP X F Γ e0 (.int c)) (l0 : plainE e0 = true) {e1 : Expr} (a1 : EP X F Γ e1 (.int w)) (l1 : plainE e1 = true) (h0 : 0 ≤ w) (h1 : w ≤ 1000) :
    EP X F Γ (.Call (.Name "_law_bits" p) [e0, e1] [] pos) (tupI (bitsI c w)) := by
  exact ep_call C h hk hg (arp_dat a0 (arp_dat a1 arp_nil l1) l0) ⟨c, w, rfl, h0, h1, rfl⟩ (l0) (by simp only [List.all_cons, List.all_nil, Bool.and_true, Bool.and_eq_true]; exact l1) (by decide +kernel)
def R_set : List Ar → PyData → Prop := fun ars d => ∃ (c : Int) (n : Int), ars = [.dat (.int c), .dat (.int n)] ∧ (1 ≤ n) ∧ (n ≤ 1000) ∧ d = .list ((setI c n).map .int)
theorem c_set {X : Cx} {M : Md} {F : Fr} {N : List Str} {sc : Scope} {kk k : Nat} {Γ : List Kd} {p pos : Pos} {c : Int} {n : Int} (C : Cok X M F N sc kk) (h : FnA M k "_law_set" R_set) (hk : k ≤ kk) (hg : sc.names.lookup ("_law_set" : Str) = some .globalImplicit) {e0 : Expr} (a0 : EP X F Γ e0 (.int c)) (l0 : plainE e0 = true) {e1 : Expr} (a1 : EP X F Γ e1 (.int n)) (l1 : plainE e1 = true) (h0 : 1 ≤ n) (h1 : n ≤ 1000) :
    EP X F Γ (.Call (.Name "_law_set" p) [e0, e1] [] pos) (.list ((setI c n).map .int)) := by
  exact ep_call C h hk hg (arp_dat a0 (arp_dat a1 arp_nil l1) l0) ⟨c, n, rfl, h0, h1, rfl⟩ (l0) (by simp only [List.all_cons, List.all_nil, Bool.and_true, Bool.and_eq_true]; exact l1) (by decide +kernel)
def R_sizes : List Ar → PyData → Prop := fun ars d => ∃ (a : Int) (b : Int), ars = [.dat (.int a), .dat (.int b)] ∧ d = .list [.int (manyI a), .int (wideI b)]
theorem c_sizes {X : Cx} {M : Md} {F : Fr} {N : List Str} {sc : Scope} {kk k : Nat} {Γ : List Kd} {p pos : Pos} {a : Int} {b : Int} (C : Cok X M F N sc kk) (h : FnA M k "_law_sizes" R_sizes) (hk : k ≤ kk) (hg : sc.names.lookup ("_law_sizes" : Str) = some .globalImplicit) {e0 : Expr} (a0 : EP X F Γ e0 (.int a)) (l0 : plainE e0 = true) {e1 : Expr} (a1 : EP X F Γ e1 (.int b)) (l1 : plainE e1 = true)  :
    EP X F Γ (.Call (.Name "_law_sizes" p) [e0, e1] [] pos) (.list [.int (manyI a), .int (wideI b)]) := by
  exact ep_call C h hk hg (arp_dat a0 (arp_dat a1 arp_nil l1) l0) ⟨a, b, rfl, rfl⟩ (l0) (by simp only [List.all_cons, List.all_nil, Bool.and_true, Bool.and_eq_true]; exact l1) (by decide +kernel)
def R_rises : List Ar → PyData → Prop := fun ars d => ∃ (ps : List Int) (n : Int), ars = [.lst (ps.map .int), .dat (.int n)] ∧ d = .bool (risesF (-1) n ps)
theorem c_rises {X : Cx} {M : Md} {F : Fr} {N : List Str} {sc : Scope} {kk k : Nat} {Γ : List Kd} {p pos : Pos} {ps : List Int} {n : Int} (C : Cok X M F N sc kk) (h : FnA M k "rising_within" R_rises) (hk : k ≤ kk) (hg : sc.names.lookup ("rising_within" : Str) = some .globalImplicit) {e0 : Expr} (a0 : LP X F Γ e0 (ps.map .int)) (l0 : plainE e0 = true) {e1 : Expr} (a1 : EP X F Γ e1 (.int n)) (l1 : plainE e1 = true)  :
    EP X F Γ (.Call (.Name "rising_within" p) [e0, e1] [] pos) (.bool (risesF (-1) n ps)) := by
  exact ep_call C h hk hg (arp_lst a0 (arp_dat a1 arp_nil l1) l0) ⟨ps, n, rfl, rfl⟩ (l0) (by simp only [List.all_cons, List.all_nil, Bool.and_true, Bool.and_eq_true]; exact l1) (by decide +kernel)
/-! ## words that take the rules one after another -/
local macro_rules | `(tactic| walk_at "vis") => `(tactic| decide +kernel)
local macro_rules | `(tactic| walk_at "nrm") => `(tactic| ((try intro _); (try simp only [List.set_cons_succ, List.set_cons_zero, List.map_cons, List.map_nil, Ar.kd, List.cons_append, List.nil_append, List.replicate_succ, List.replicate_zero, List.replicate]); first | done | rfl))
local macro_rules | `(tactic| walk_at "sel") => `(tactic| ((try simp only [List.set_cons_succ, List.set_cons_zero]); repeat (first | with_reducible exact Sel.here | with_reducible apply Sel.there)))
local macro_rules | `(tactic| walk_at "op") => `(tactic| first
  | with_reducible exact do_add | with_reducible exact do_sub | with_reducible exact do_lt | with_reducible exact do_le | with_reducible exact do_gt | with_reducible exact do_ge
  | with_reducible exact do_eqI | with_reducible exact do_neI | with_reducible exact do_xor
  | ((with_reducible refine' do_mod ?_); first | omega | decide | skip) | ((with_reducible refine' do_mul ?_); first | exact Or.inr ⟨by decide, by decide⟩ | exact Or.inl ⟨by decide, by decide⟩ | exact Or.inl ⟨by omega, by omega⟩ | exact Or.inr ⟨by omega, by omega⟩ | skip) | ((with_reducible refine' do_div ?_); first | exact ⟨by decide, by decide⟩ | skip)
  | ((with_reducible refine' do_rep0 ?h1_do_rep0 ?h2_do_rep0); (case' h1_do_rep0 => first | omega | skip); (case' h2_do_rep0 => first | omega | skip))
  | ((with_reducible refine' do_pow ?_); exact ⟨by decide, by decide, by decide⟩)
  | with_reducible exact do_eqB | with_reducible exact do_neB | with_reducible exact do_eqS | with_reducible exact do_neS | with_reducible exact do_isN | with_reducible exact do_notN
  | ((with_reducible refine' do_cat ?_); first | (simp only [List.length_map, List.length_append, List.length_cons, List.length_nil, cap]; omega) | skip)
  | ((with_reducible refine' do_eqN (n := 8) (m := 8) (by assumption) ?n1_do_eqN ?n2_do_eqN (by decide) (by decide)); (case' n1_do_eqN => walk_at "nd"); (case' n2_do_eqN => walk_at "nd"))
  | ((with_reducible refine' do_neN (n := 8) (m := 8) (by assumption) ?n1_do_neN ?n2_do_neN (by decide) (by decide)); (case' n1_do_neN => walk_at "nd"); (case' n2_do_neN => walk_at "nd")))
local macro_rules | `(tactic| walk_at "nm") => `(tactic| ((with_reducible refine' ep_name (by assumption) ?nsel_ep_name ?nvis_ep_name ?nhd_ep_name ?nhc_ep_name); (case nsel_ep_name => walk_at "sel"); (case nvis_ep_name => walk_at "vis"); (case nhd_ep_name => walk_at "vis"); (case nhc_ep_name => walk_at "vis")))
local macro_rules | `(tactic| walk_at "lp") => `(tactic| first
  | ((with_reducible refine' lp_lstI ?na_lp_lstI ?ni_lp_lstI ?nlen_lp_lstI); (case' na_lp_lstI => walk_at "ap"); (case ni_lp_lstI => walk_at "ints"); (case nlen_lp_lstI => first | (simp [cap]; done) | skip))
  | ((with_reducible refine' lp_lstV ?na_lp_lstV ?ni_lp_lstV ?nlen_lp_lstV); (case' na_lp_lstV => walk_at "ap"); (case ni_lp_lstV => repeat (first | with_reducible exact VOf.nil | with_reducible apply VOf.cons)); (case nlen_lp_lstV => first | (simp [cap]; done) | skip))
  | ((with_reducible refine' lp_own (by assumption) ?nsel_lp_own ?nvis_lp_own ?nhd_lp_own ?nhc_lp_own); (case nsel_lp_own => walk_at "sel"); (case nvis_lp_own => walk_at "vis"); (case nhd_lp_own => walk_at "vis"); (case nhc_lp_own => walk_at "vis"))
  | ((with_reducible refine' lp_arg (by assumption) ?nsel_lp_arg ?nvis_lp_arg ?nhd_lp_arg ?nhc_lp_arg); (case nsel_lp_arg => walk_at "sel"); (case nvis_lp_arg => walk_at "vis"); (case nhd_lp_arg => walk_at "vis"); (case nhc_lp_arg => walk_at "vis"))
  | ((with_reducible refine' NP.lp ?nb_NP_lp); (case' nb_NP_lp => walk_at "np")) | ((with_reducible refine' EP.lp ?nb_EP_lp); (case' nb_EP_lp => walk_at "ep")))
local macro_rules | `(tactic| walk_at "oo") => `(tactic| first | with_reducible exact op_none | ((with_reducible refine' op_some ?nb_op_some); (case' nb_op_some => walk_at "ep")))
local macro_rules | `(tactic| walk_at "ap") => `(tactic| first | with_reducible exact ap_nil | ((with_reducible refine' ap_cons ?ah_ap_cons ?ar_ap_cons ?apl_ap_cons); (case apl_ap_cons => rfl); (case' ah_ap_cons => walk_at "ep"); (case' ar_ap_cons => walk_at "ap")))
local macro_rules | `(tactic| walk_at "lc") => `(tactic| (intro s0 H0 C0 cl0 fp0 C1; (try simp only [List.set_cons_succ, List.set_cons_zero])))
local macro_rules | `(tactic| walk_at "cp") => `(tactic| first
  | ((with_reducible refine' cp_zip (by assumption) (by assumption) ?rx_cp_zip ?rd_cp_zip ?ry_cp_zip ?rd2_cp_zip ?rij_cp_zip ?rs_cp_zip ?rt_cp_zip ?rlen_cp_zip ?rok_cp_zip ?rl_cp_zip ?rf_cp_zip ?rl2_cp_zip ?rf2_cp_zip ?rg_cp_zip ?rp1_cp_zip ?rp2_cp_zip ?rE_cp_zip); (case rx_cp_zip => walk_at "sel"); (case rd_cp_zip => first | rfl | assumption); (case ry_cp_zip => walk_at "sel"); (case rd2_cp_zip => first | rfl | assumption); (case rij_cp_zip => decide); (case' rs_cp_zip => walk_at "ep"); (case' rt_cp_zip => walk_at "ep"); (case' rlen_cp_zip => first | assumption | skip); (case rok_cp_zip => walk_at "vis"); (case rl_cp_zip => walk_at "vis"); (case rf_cp_zip => walk_at "vis"); (case rl2_cp_zip => walk_at "vis"); (case rf2_cp_zip => walk_at "vis"); (case rg_cp_zip => walk_at "vis"); (case rp1_cp_zip => rfl); (case rp2_cp_zip => rfl); (case' rE_cp_zip => intro z hz; walk_at "lc"; walk_at "ep"))
  | ((with_reducible refine' cp_rangeI0 (by assumption) (by assumption) ?rx_cp_rangeI0 ?rd_cp_rangeI0 ?rs_cp_rangeI0 ?rn_cp_rangeI0 ?rok_cp_rangeI0 ?rl_cp_rangeI0 ?rf_cp_rangeI0 ?rg_cp_rangeI0 ?rpl_cp_rangeI0 ?rE_cp_rangeI0 ?rn0_cp_rangeI0); (case rx_cp_rangeI0 => walk_at "sel"); (case rd_cp_rangeI0 => first | rfl | assumption); (case' rs_cp_rangeI0 => walk_at "ep"); (case rok_cp_rangeI0 => walk_at "vis"); (case rl_cp_rangeI0 => walk_at "vis"); (case rf_cp_rangeI0 => walk_at "vis"); (case rg_cp_rangeI0 => walk_at "vis"); (case rpl_cp_rangeI0 => rfl); (case' rn_cp_rangeI0 => first | omega | skip); (case' rn0_cp_rangeI0 => first | omega | skip); (case' rE_cp_rangeI0 => intro j hj; walk_at "lc"; walk_at "ep"))
  | ((with_reducible refine' cp_rangeI (by assumption) (by assumption) ?rx_cp_rangeI ?rd_cp_rangeI ?rs_cp_rangeI ?rn_cp_rangeI ?rok_cp_rangeI ?rl_cp_rangeI ?rf_cp_rangeI ?rg_cp_rangeI ?rpl_cp_rangeI ?rT_cp_rangeI ?rE_cp_rangeI ?rn0_cp_rangeI); (case rx_cp_rangeI => walk_at "sel"); (case rd_cp_rangeI => first | rfl | assumption); (case' rs_cp_rangeI => walk_at "ep"); (case rok_cp_rangeI => walk_at "vis"); (case rl_cp_rangeI => walk_at "vis"); (case rf_cp_rangeI => walk_at "vis"); (case rg_cp_rangeI => walk_at "vis"); (case rpl_cp_rangeI => rfl); (case' rn_cp_rangeI => first | omega | skip); (case' rn0_cp_rangeI => first | omega | skip); (case' rT_cp_rangeI => intro j hj; walk_at "ts"); (case' rE_cp_rangeI => intro j hj hp; walk_at "lc"; walk_at "ep"))
  | ((with_reducible refine' cp_rangeV0 (by assumption) (by assumption) ?rx_cp_rangeV0 ?rd_cp_rangeV0 ?rs_cp_rangeV0 ?rn_cp_rangeV0 ?rok_cp_rangeV0 ?rl_cp_rangeV0 ?rf_cp_rangeV0 ?rg_cp_rangeV0 ?rpl_cp_rangeV0 ?rE_cp_rangeV0 ?rn0_cp_rangeV0); (case rx_cp_rangeV0 => walk_at "sel"); (case rd_cp_rangeV0 => first | rfl | assumption); (case' rs_cp_rangeV0 => walk_at "ep"); (case rok_cp_rangeV0 => walk_at "vis"); (case rl_cp_rangeV0 => walk_at "vis"); (case rf_cp_rangeV0 => walk_at "vis"); (case rg_cp_rangeV0 => walk_at "vis"); (case rpl_cp_rangeV0 => rfl); (case' rn_cp_rangeV0 => first | omega | skip); (case' rn0_cp_rangeV0 => first | omega | skip); (case' rE_cp_rangeV0 => intro j hj; walk_at "lc"; walk_at "ep"))
  | ((with_reducible refine' cp_range0 (by assumption) (by assumption) ?rx_cp_range0 ?rd_cp_range0 ?rs_cp_range0 ?rn_cp_range0 ?rok_cp_range0 ?rl_cp_range0 ?rf_cp_range0 ?rg_cp_range0 ?rpl_cp_range0 ?rE_cp_range0 ?rn0_cp_range0); (case rx_cp_range0 => walk_at "sel"); (case rd_cp_range0 => first | rfl | assumption); (case' rs_cp_range0 => walk_at "ep"); (case rok_cp_range0 => walk_at "vis"); (case rl_cp_range0 => walk_at "vis"); (case rf_cp_range0 => walk_at "vis"); (case rg_cp_range0 => walk_at "vis"); (case rpl_cp_range0 => rfl); (case' rn_cp_range0 => first | omega | skip); (case' rn0_cp_range0 => first | omega | skip); (case' rE_cp_range0 => intro j hj; walk_at "lc"; walk_at "ep"))
  | ((with_reducible refine' cp_range (by assumption) (by assumption) ?rx_cp_range ?rd_cp_range ?rs_cp_range ?rn_cp_range ?rok_cp_range ?rl_cp_range ?rf_cp_range ?rg_cp_range ?rpl_cp_range ?rT_cp_range ?rE_cp_range ?rn0_cp_range); (case rx_cp_range => walk_at "sel"); (case rd_cp_range => first | rfl | assumption); (case' rs_cp_range => walk_at "ep"); (case rok_cp_range => walk_at "vis"); (case rl_cp_range => walk_at "vis"); (case rf_cp_range => walk_at "vis"); (case rg_cp_range => walk_at "vis"); (case rpl_cp_range => rfl); (case' rn_cp_range => first | omega | skip); (case' rn0_cp_range => first | omega | skip); (case' rT_cp_range => intro j hj; walk_at "ts"); (case' rE_cp_range => intro j hj hp; walk_at "lc"; walk_at "ep"))
  | ((with_reducible refine' cp_listI0 (by assumption) ?rx_cp_listI0 ?rd_cp_listI0 ?rs_cp_listI0 ?rok_cp_listI0 ?rl_cp_listI0 ?rf_cp_listI0 ?rE_cp_listI0); (case rx_cp_listI0 => walk_at "sel"); (case rd_cp_listI0 => first | rfl | assumption); (case' rs_cp_listI0 => walk_at "lp"); (case rok_cp_listI0 => walk_at "vis"); (case rl_cp_listI0 => walk_at "vis"); (case rf_cp_listI0 => walk_at "vis"); (case' rE_cp_listI0 => intro y hy; walk_at "lc"; walk_at "ep"))
  | ((with_reducible refine' cp_listI (by assumption) ?rx_cp_listI ?rd_cp_listI ?rs_cp_listI ?rok_cp_listI ?rl_cp_listI ?rf_cp_listI ?rT_cp_listI ?rE_cp_listI); (case rx_cp_listI => walk_at "sel"); (case rd_cp_listI => first | rfl | assumption); (case' rs_cp_listI => walk_at "lp"); (case rok_cp_listI => walk_at "vis"); (case rl_cp_listI => walk_at "vis"); (case rf_cp_listI => walk_at "vis"); (case' rT_cp_listI => intro y hy; walk_at "ts"); (case' rE_cp_listI => intro y hy hp; walk_at "lc"; walk_at "ep"))
  | ((with_reducible refine' cp_listV0 (by assumption) ?rx_cp_listV0 ?rd_cp_listV0 ?rs_cp_listV0 ?rok_cp_listV0 ?rl_cp_listV0 ?rf_cp_listV0 ?rE_cp_listV0); (case rx_cp_listV0 => walk_at "sel"); (case rd_cp_listV0 => first | rfl | assumption); (case' rs_cp_listV0 => walk_at "lp"); (case rok_cp_listV0 => walk_at "vis"); (case rl_cp_listV0 => walk_at "vis"); (case rf_cp_listV0 => walk_at "vis"); (case' rE_cp_listV0 => intro y hy; walk_at "lc"; walk_at "ep"))
  | ((with_reducible refine' cp_list0 (by assumption) ?rx_cp_list0 ?rd_cp_list0 ?rs_cp_list0 ?rok_cp_list0 ?rl_cp_list0 ?rf_cp_list0 ?rE_cp_list0); (case rx_cp_list0 => walk_at "sel"); (case rd_cp_list0 => first | rfl | assumption); (case' rs_cp_list0 => walk_at "lp"); (case rok_cp_list0 => walk_at "vis"); (case rl_cp_list0 => walk_at "vis"); (case rf_cp_list0 => walk_at "vis"); (case' rE_cp_list0 => intro y hy; walk_at "lc"; walk_at "ep"))
  | ((with_reducible refine' cp_list (by assumption) ?rx_cp_list ?rd_cp_list ?rs_cp_list ?rok_cp_list ?rl_cp_list ?rf_cp_list ?rT_cp_list ?rE_cp_list); (case rx_cp_list => walk_at "sel"); (case rd_cp_list => first | rfl | assumption); (case' rs_cp_list => walk_at "lp"); (case rok_cp_list => walk_at "vis"); (case rl_cp_list => walk_at "vis"); (case rf_cp_list => walk_at "vis"); (case' rT_cp_list => intro y hy; walk_at "ts"); (case' rE_cp_list => intro y hy hp; walk_at "lc"; walk_at "ep"))
  | ((with_reducible refine' cp_tupI (by assumption) ?rx_cp_tupI ?rd_cp_tupI ?rs_cp_tupI ?rok_cp_tupI ?rl_cp_tupI ?rf_cp_tupI ?rT_cp_tupI ?rE_cp_tupI); (case rx_cp_tupI => walk_at "sel"); (case rd_cp_tupI => first | rfl | assumption); (case' rs_cp_tupI => walk_at "ep"); (case rok_cp_tupI => walk_at "vis"); (case rl_cp_tupI => walk_at "vis"); (case rf_cp_tupI => walk_at "vis"); (case' rT_cp_tupI => intro y hy; walk_at "ts"); (case' rE_cp_tupI => intro y hy hp; walk_at "lc"; walk_at "ep"))
  | ((with_reducible refine' cp_tup (by assumption) ?rx_cp_tup ?rd_cp_tup ?rs_cp_tup ?rok_cp_tup ?rl_cp_tup ?rf_cp_tup ?rT_cp_tup ?rE_cp_tup); (case rx_cp_tup => walk_at "sel"); (case rd_cp_tup => first | rfl | assumption); (case' rs_cp_tup => walk_at "ep"); (case rok_cp_tup => walk_at "vis"); (case rl_cp_tup => walk_at "vis"); (case rf_cp_tup => walk_at "vis"); (case' rT_cp_tup => intro y hy; walk_at "ts"); (case' rE_cp_tup => intro y hy hp; walk_at "lc"; walk_at "ep")))
local macro_rules | `(tactic| walk_at "ts") => `(tactic| first | (intro _ _ _ _ _ _; with_reducible exact tsp_nil) | (walk_at "lc"; (with_reducible refine' tsp_one ?tb_tsp_one); (case' tb_tsp_one => walk_at "tp")))
local macro_rules | `(tactic| walk_at "np") => `(tactic| first
  | ((with_reducible refine' np_lc (by assumption) ?nc_np_lc ?nf_np_lc); (case nf_np_lc => intro _; rfl); (case' nc_np_lc => walk_at "cp"))
  | ((with_reducible refine' np_sset (by assumption) (by assumption) (by assumption) ?na_np_sset ?nlen_np_sset ?ng_np_sset ?ng2_np_sset ?npl_np_sset); (case npl_np_sset => rfl); (case ng_np_sset => walk_at "vis"); (case ng2_np_sset => walk_at "vis"); (case' na_np_sset => walk_at "lp"); (case' nlen_np_sset => first | omega | skip))
  | ((with_reducible refine' np_listT (by assumption) (by assumption) ?na_np_listT ?ng_np_listT ?npl_np_listT); (case npl_np_listT => rfl); (case ng_np_listT => walk_at "vis"); (case' na_np_listT => walk_at "ep"))
  | ((with_reducible refine' np_lst ?na_np_lst ?nlen_np_lst); (case' na_np_lst => walk_at "ap"); (case nlen_np_lst => first | (simp [cap]; done) | skip))
  | ((with_reducible refine' np_slL ?na_np_slL ?nl_np_slL ?nu_np_slL); (case' na_np_slL => walk_at "lp"); (case' nl_np_slL => walk_at "oo"); (case' nu_np_slL => walk_at "oo"))
  | ((with_reducible refine' np_catM ?na_np_catM ?nb_np_catM ?nlc_np_catM); (case' na_np_catM => walk_at "lp"); (case' nb_np_catM => walk_at "lp"); (case' nlc_np_catM => first | omega | skip))
  | ((with_reducible refine' np_slM ?na_np_slM ?nl_np_slM ?nu_np_slM); (case' na_np_slM => walk_at "lp"); (case' nl_np_slM => walk_at "oo"); (case' nu_np_slM => walk_at "oo"))
  | ((with_reducible refine' np_slS (by assumption) ?sa_np_slS ?sv_np_slS ?nl_np_slS ?nu_np_slS ?hd_np_slS ?hc_np_slS); (case sa_np_slS => walk_at "sel"); (case sv_np_slS => walk_at "vis"); (case hd_np_slS => walk_at "vis"); (case hc_np_slS => walk_at "vis"); (case' nl_np_slS => walk_at "oo"); (case' nu_np_slS => walk_at "oo"))
  | ((with_reducible refine' np_list (by assumption) (by assumption) ?na_np_list ?ng_np_list ?npl_np_list); (case npl_np_list => rfl); (case' na_np_list => walk_at "lp"); (case ng_np_list => walk_at "vis")))
local macro_rules | `(tactic| walk_at "ep") => `(tactic| first
  | with_reducible exact ep_int | with_reducible exact ep_bool | with_reducible exact ep_none | with_reducible exact ep_str
  | walk_at "nm"
  | ((with_reducible refine' ep_bin ?ba_ep_bin ?bb_ep_bin ?bo_ep_bin); (case' ba_ep_bin => walk_at "ep"); (case' bb_ep_bin => walk_at "ep"); (case' bo_ep_bin => walk_at "op"))
  | ((with_reducible refine' ep_inI ?ba_ep_inI ?bb_ep_inI ?bm_ep_inI); (case bm_ep_inI => rfl); (case' ba_ep_inI => walk_at "ep"); (case' bb_ep_inI => walk_at "lp"))
  | ((with_reducible refine' ep_notInI ?ba_ep_notInI ?bb_ep_notInI ?bm_ep_notInI); (case bm_ep_notInI => rfl); (case' ba_ep_notInI => walk_at "ep"); (case' bb_ep_notInI => walk_at "lp"))
  | ((with_reducible refine' ep_cmp ?ba_ep_cmp ?bb_ep_cmp ?bo_ep_cmp ?bm_ep_cmp); (case bm_ep_cmp => first | rfl | exact nomark _); (case' ba_ep_cmp => walk_at "ep"); (case' bb_ep_cmp => walk_at "ep"); (case' bo_ep_cmp => walk_at "op"))
  | ((with_reducible refine' ep_neg ?ba_ep_neg); (case' ba_ep_neg => walk_at "ep"))
  | ((with_reducible refine' ep_len (by assumption) (by assumption) ?la_ep_len ?lg_ep_len ?lpl_ep_len); (case lpl_ep_len => rfl); (case' la_ep_len => walk_at "lp"); (case lg_ep_len => walk_at "vis"))
  | walk_at "ix"
  | walk_at "call"
  | ((with_reducible refine' ep_not ?ba_ep_not); (case' ba_ep_not => walk_at "ep"))
  | ((with_reducible refine' ep_and ?ba_ep_and ?bb_ep_and); (case' ba_ep_and => walk_at "ep"); (case' bb_ep_and => intro hh; (try simp only [decide_eq_true_eq, decide_eq_false_iff_not, Bool.not_eq_true', Bool.not_eq_false'] at hh); walk_at "ep"))
  | ((with_reducible refine' ep_or ?ba_ep_or ?bb_ep_or); (case' ba_ep_or => walk_at "ep"); (case' bb_ep_or => intro hh; (try simp only [decide_eq_true_eq, decide_eq_false_iff_not, Bool.not_eq_true', Bool.not_eq_false'] at hh); walk_at "ep"))
  | ((with_reducible refine' ep_one ?ba_ep_one); (case' ba_ep_one => walk_at "ep"))
  | ((with_reducible refine' ep_ixS (by assumption) ?ss_ep_ixS ?sv_ep_ixS ?sj_ep_ixS ?b0_ep_ixS ?b1_ep_ixS ?bpi_ep_ixS ?shd_ep_ixS ?shc_ep_ixS); (case ss_ep_ixS => walk_at "sel"); (case sv_ep_ixS => walk_at "vis"); (case shd_ep_ixS => walk_at "vis"); (case shc_ep_ixS => walk_at "vis"); (case bpi_ep_ixS => exact fun _ _ => rfl); (case' sj_ep_ixS => walk_at "ep"); (case' b0_ep_ixS => first | omega | skip); (case' b1_ep_ixS => first | omega | skip))
  | ((with_reducible refine' ep_lenS (by assumption) (by assumption) ?ss_ep_lenS ?sv_ep_lenS ?sg_ep_lenS ?shd_ep_lenS ?shc_ep_lenS); (case ss_ep_lenS => walk_at "sel"); (case sv_ep_lenS => walk_at "vis"); (case sg_ep_lenS => walk_at "vis"); (case shd_ep_lenS => walk_at "vis"); (case shc_ep_lenS => walk_at "vis"))
  | ((with_reducible refine' ep_tuple (by assumption) (by assumption) ?na_ep_tuple ?ng_ep_tuple ?npl_ep_tuple); (case npl_ep_tuple => rfl); (case ng_ep_tuple => walk_at "vis"); (case' na_ep_tuple => walk_at "lp"))
  | ((with_reducible refine' ep_sum (by assumption) (by assumption) ?na_ep_sum ?ng_ep_sum ?npl_ep_sum); (case npl_ep_sum => rfl); (case ng_ep_sum => walk_at "vis"); (case' na_ep_sum => walk_at "lp"))
  | ((with_reducible refine' ep_intB (by assumption) (by assumption) ?na_ep_intB ?ng_ep_intB ?npl_ep_intB); (case npl_ep_intB => rfl); (case ng_ep_intB => walk_at "vis"); (case' na_ep_intB => walk_at "ep"))
  | ((with_reducible refine' ep_lenT (by assumption) (by assumption) ?la_ep_lenT ?lg_ep_lenT ?lpl_ep_lenT); (case lpl_ep_lenT => rfl); (case' la_ep_lenT => walk_at "ep"); (case lg_ep_lenT => walk_at "vis"))
  | ((first | (with_reducible refine' ep_is_int (by assumption) (by assumption) (by assumption) ?ia_ep_is ?ig_ep_is ?ig2_ep_is ?ipl_ep_is) | (with_reducible refine' ep_is_bool (by assumption) (by assumption) (by assumption) ?ia_ep_is ?ig_ep_is ?ig2_ep_is ?ipl_ep_is) | (with_reducible refine' ep_is_list (by assumption) (by assumption) (by assumption) ?ia_ep_is ?ig_ep_is ?ig2_ep_is ?ipl_ep_is) | (with_reducible refine' ep_is_tuple (by assumption) (by assumption) (by assumption) ?ia_ep_is ?ig_ep_is ?ig2_ep_is ?ipl_ep_is) | (with_reducible refine' ep_is_str (by assumption) (by assumption) (by assumption) ?ia_ep_is ?ig_ep_is ?ig2_ep_is ?ipl_ep_is)); (case ipl_ep_is => rfl); (case ig_ep_is => walk_at "vis"); (case ig2_ep_is => walk_at "vis"); (case' ia_ep_is => walk_at "ep"))
  | ((with_reducible refine' ep_tup ?na_ep_tup ?nlen_ep_tup); (case' na_ep_tup => walk_at "ap"); (case nlen_ep_tup => first | (simp [cap]; done) | skip))
  | ((with_reducible refine' NP.ep ?nb_NP_ep); (case' nb_NP_ep => walk_at "np")))
local macro_rules | `(tactic| walk_at "ints") => `(tactic| repeat (first | with_reducible exact IntsOf.nil | with_reducible apply IntsOf.cons))
local macro_rules | `(tactic| walk_at "bd") => `(tactic| first | omega | (simp only [List.length_cons, List.length_nil, List.length_map]; omega) | skip)
local macro_rules | `(tactic| walk_at "nd") => `(tactic| repeat (first | with_reducible exact nd_int | with_reducible exact nd_none | with_reducible exact nd_nil | with_reducible refine nd_cons ?_ ?_ | ((with_reducible refine nd_lmap ?_); intro _) | ((with_reducible refine nd_tmap ?_); intro _) | with_reducible refine nd_lst ?_ | with_reducible refine nd_tup ?_ | ((with_reducible refine nd_str ?_); decide +kernel)))
local macro_rules | `(tactic| walk_at "ix") => `(tactic| first
  | ((with_reducible refine' ep_ixL ?ba_ep_ixL ep_int ?bj_ep_ixL ?bpi_ep_ixL); (case bpi_ep_ixL => exact fun _ _ => rfl); (case' ba_ep_ixL => walk_at "lp"); (case bj_ep_ixL => rfl))
  | ((with_reducible refine' ep_ixT ?ba_ep_ixT ep_int ?bj_ep_ixT ?bpi_ep_ixT); (case bpi_ep_ixT => exact fun _ _ => rfl); (case' ba_ep_ixT => walk_at "ep"); (case bj_ep_ixT => rfl))
  | ((with_reducible refine' ep_ixI ?ba_ep_ixI ?bb_ep_ixI ?b0_ep_ixI ?b1_ep_ixI ?bpi_ep_ixI); (case bpi_ep_ixI => exact fun _ _ => rfl); (case' ba_ep_ixI => walk_at "lp"); (case' bb_ep_ixI => walk_at "ep"); (case' b0_ep_ixI => walk_at "bd"); (case' b1_ep_ixI => walk_at "bd"))
  | ((with_reducible refine' ep_ixV ?ba_ep_ixV ?bb_ep_ixV ?b0_ep_ixV ?b1_ep_ixV ?bpi_ep_ixV); (case bpi_ep_ixV => exact fun _ _ => rfl); (case' ba_ep_ixV => walk_at "lp"); (case' bb_ep_ixV => walk_at "ep"); (case' b0_ep_ixV => walk_at "bd"); (case' b1_ep_ixV => walk_at "bd"))
  | ((with_reducible refine' ep_ixQ ?ba_ep_ixQ ?bb_ep_ixQ ?b0_ep_ixQ ?b1_ep_ixQ ?bpi_ep_ixQ); (case bpi_ep_ixQ => exact fun _ _ => rfl); (case' ba_ep_ixQ => walk_at "lp"); (case' bb_ep_ixQ => walk_at "ep"); (case' b0_ep_ixQ => walk_at "bd"); (case' b1_ep_ixQ => walk_at "bd"))
  | ((with_reducible refine' ep_ixJ ?ba_ep_ixJ ?bi_ep_ixJ ?bb_ep_ixJ ?b0_ep_ixJ ?b1_ep_ixJ ?bpi_ep_ixJ); (case bpi_ep_ixJ => exact fun _ _ => rfl); (case' ba_ep_ixJ => walk_at "lp"); (case bi_ep_ixJ => walk_at "ints"); (case' bb_ep_ixJ => walk_at "ep"); (case' b0_ep_ixJ => walk_at "bd"); (case' b1_ep_ixJ => walk_at "bd"))
  | ((with_reducible refine' ep_ixG ?ba_ep_ixG ?bb_ep_ixG ?b0_ep_ixG ?b1_ep_ixG ?bpi_ep_ixG); (case bpi_ep_ixG => exact fun _ _ => rfl); (case' ba_ep_ixG => walk_at "lp"); (case' bb_ep_ixG => walk_at "ep"); (case' b0_ep_ixG => walk_at "bd"); (case' b1_ep_ixG => walk_at "bd"))
  | ((with_reducible refine' ep_ixIT ?ba_ep_ixIT ?bb_ep_ixIT ?b0_ep_ixIT ?b1_ep_ixIT ?bpi_ep_ixIT); (case bpi_ep_ixIT => exact fun _ _ => rfl); (case' ba_ep_ixIT => walk_at "ep"); (case' bb_ep_ixIT => walk_at "ep"); (case' b0_ep_ixIT => walk_at "bd"); (case' b1_ep_ixIT => walk_at "bd")))
local macro_rules | `(tactic| walk_at "tp") => `(tactic| first
  | ((with_reducible refine' WT.tp (wt_and ?ba_wt_and ?bb_wt_and)); (case' ba_wt_and => walk_at "tp"); (case' bb_wt_and => intro hh; (try simp only [decide_eq_true_eq, decide_eq_false_iff_not, Bool.not_eq_true', Bool.not_eq_false'] at hh); walk_at "wt"))
  | ((with_reducible refine' WT.tp (wt_or ?ba_wt_or ?bb_wt_or)); (case' ba_wt_or => walk_at "tp"); (case' bb_wt_or => intro hh; (try simp only [decide_eq_true_eq, decide_eq_false_iff_not, Bool.not_eq_true', Bool.not_eq_false'] at hh); walk_at "wt"))
  | ((with_reducible refine' tp_not ?nx_tp_not); (case' nx_tp_not => walk_at "tp"))
  | ((with_reducible refine' tp_inI ?ba_tp_inI ?bb_tp_inI ?bm_tp_inI); (case bm_tp_inI => rfl); (case' ba_tp_inI => walk_at "ep"); (case' bb_tp_inI => walk_at "lp"))
  | ((with_reducible refine' tp_notInI ?ba_tp_notInI ?bb_tp_notInI ?bm_tp_notInI); (case bm_tp_notInI => rfl); (case' ba_tp_notInI => walk_at "ep"); (case' bb_tp_notInI => walk_at "lp"))
  | ((with_reducible refine' tp_cmp ?ba_tp_cmp ?bb_tp_cmp ?bo_tp_cmp ?bm_tp_cmp); (case bm_tp_cmp => first | rfl | exact nomark _); (case' ba_tp_cmp => walk_at "ep"); (case' bb_tp_cmp => walk_at "ep"); (case' bo_tp_cmp => walk_at "op"))
  | ((with_reducible refine' tp_lst ?la_tp_lst ?lw_tp_lst); (case lw_tp_lst => intro _; rfl); (case' la_tp_lst => first
      | ((with_reducible refine' lp_own (by assumption) ?nsel_lp_own ?nvis_lp_own ?nhd_lp_own ?nhc_lp_own); (case nsel_lp_own => walk_at "sel"); (case nvis_lp_own => walk_at "vis"); (case nhd_lp_own => walk_at "vis"); (case nhc_lp_own => walk_at "vis"))
      | ((with_reducible refine' lp_arg (by assumption) ?nsel_lp_arg ?nvis_lp_arg ?nhd_lp_arg ?nhc_lp_arg); (case nsel_lp_arg => walk_at "sel"); (case nvis_lp_arg => walk_at "vis"); (case nhd_lp_arg => walk_at "vis"); (case nhc_lp_arg => walk_at "vis"))))
  | ((with_reducible refine' tp_val ?vx_tp_val ?bw_tp_val); (case bw_tp_val => intro _; rfl); (case' vx_tp_val => walk_at "ep")))
local macro_rules | `(tactic| walk_at "wt") => `(tactic| first
  | ((with_reducible refine' wt_and ?ba_wt_and ?bb_wt_and); (case' ba_wt_and => walk_at "tp"); (case' bb_wt_and => intro hh; (try simp only [decide_eq_true_eq, decide_eq_false_iff_not, Bool.not_eq_true', Bool.not_eq_false'] at hh); walk_at "wt"))
  | ((with_reducible refine' wt_or ?ba_wt_or ?bb_wt_or); (case' ba_wt_or => walk_at "tp"); (case' bb_wt_or => intro hh; (try simp only [decide_eq_true_eq, decide_eq_false_iff_not, Bool.not_eq_true', Bool.not_eq_false'] at hh); walk_at "wt"))
  | ((with_reducible refine' wt_and1 ?ba_wt_and1); (case' ba_wt_and1 => walk_at "tp"))
  | ((with_reducible refine' wt_or1 ?ba_wt_or1); (case' ba_wt_or1 => walk_at "tp")))
local macro_rules | `(tactic| walk_at "set") => `(tactic| (refine' ws_set (by assumption) (by assumption) (by assumption) ?s1 ?sd ?s2 ?s3 ?s4 ?s5 ?a1; (case a1 => rfl); (case s1 => walk_at "sel"); (case sd => first | rfl | assumption); (case s2 => walk_at "vis"); (case' s3 => walk_at "ep"); (case s4 => walk_at "nrm"); (case' s5 => intro _ _ _ _)))
local macro_rules | `(tactic| walk_at "own") => `(tactic| (refine' ws_own (by assumption) (by assumption) (by assumption) ?s1 ?sd ?s2 ?s3 ?s4 ?s5 ?a1; (case a1 => rfl); (case s1 => walk_at "sel"); (case sd => first | rfl | assumption); (case s2 => walk_at "vis"); (case' s3 => walk_at "np"); (case s4 => walk_at "nrm"); (case' s5 => intro _ _ _ _ _ _)))
local macro_rules | `(tactic| walk_at "ret") => `(tactic| (refine' ws_retP (by assumption) ?s1 ?s2; (case' s1 => walk_at "ep")))
local macro_rules | `(tactic| walk_at "if") => `(tactic| (refine' ws_if (by assumption) ?s1 ?s2 ?s3; (case s1 => walk_at "tp"); (case' s3 => intro _ _ _ _); (case' s2 => intro _ _ _ _)))
local macro_rules | `(tactic| walk_at "app") => `(tactic| (refine' ws_append (by assumption) (by assumption) ?s1 ?s2 ?s3 ?sl ?s4 ?s5 ?a1 ?a2 ?a3 ?a4 ?a5; (case a1 => rfl); (case a2 => rfl); (case a3 => rfl); (case a4 => walk_at "vis"); (case a5 => walk_at "vis"); (case s1 => walk_at "sel"); (case s2 => walk_at "vis"); (case' s3 => walk_at "ep"); (case s4 => walk_at "nrm"); (case' s5 => intro _ _ _ _)))
local macro_rules | `(tactic| walk_at "extd") => `(tactic| (refine' ws_extend (by assumption) (by assumption) ?s1 ?s2 ?s3 ?sl ?s4 ?s5 ?a1 ?a2 ?a3 ?a4 ?a5; (case a1 => rfl); (case a2 => rfl); (case a3 => rfl); (case a4 => walk_at "vis"); (case a5 => walk_at "vis"); (case s1 => walk_at "sel"); (case s2 => walk_at "vis"); (case' s3 => walk_at "lp"); (case s4 => walk_at "nrm"); (case' s5 => intro _ _ _ _)))
local macro_rules | `(tactic| walk_at "inc") => `(tactic| (refine' ws_aug (by assumption) (by assumption) (by assumption) ?s1 ?s2 ?s3 ip_add ?sz ?s4 ?s5; (case s1 => walk_at "sel"); (case s2 => walk_at "vis"); (case' s3 => walk_at "ep"); (case sz => rfl); (case s4 => walk_at "nrm"); (case' s5 => intro _ _ _ _)))
local macro_rules | `(tactic| walk_at "frz") => `(tactic| (refine' ws_freeze (by assumption) ?f1 ?f4 ?f5; (case f1 => repeat (first | with_reducible exact Kx.here | with_reducible apply Kx.there)); (case f4 => walk_at "nrm"); (case' f5 => intro _ _ _)))
local macro_rules | `(tactic| walk_at "setlc") => `(tactic| first
  | (refine' ws_setLc (by assumption) (by assumption) (by assumption) ?s1 ?sd ?s2 ?s6 ?s3 ?s7 ?s8 ?s9 ?s4 ?s5; (case s1 => walk_at "sel"); (case sd => first | rfl | assumption); (case s2 => walk_at "vis"); (case s6 => rfl); (case s7 => rfl); (case s8 => walk_at "vis"); (case s9 => intro _; rfl); (case' s3 => walk_at "cp"); (case s4 => walk_at "nrm"); (case' s5 => intro _ _ _ _))
  | (refine' ws_setLcC (by assumption) (by assumption) (by assumption) ?s1 ?sd ?s2 ?s3 ?s9 ?s4 ?s5; (case s1 => walk_at "sel"); (case sd => first | rfl | assumption); (case s2 => walk_at "vis"); (case s9 => intro _; rfl); (case' s3 => walk_at "cp"); (case s4 => walk_at "nrm"); (case' s5 => intro _ _ _ _)))
local macro_rules | `(tactic| walk_at "ownlc") => `(tactic| first
  | (refine' ws_ownLc (by assumption) (by assumption) (by assumption) ?s1 ?sd ?s2 ?s6 ?s3 ?s7 ?s8 ?s9 ?s4 ?s5; (case s1 => walk_at "sel"); (case sd => first | rfl | assumption); (case s2 => walk_at "vis"); (case s6 => rfl); (case s7 => rfl); (case s8 => walk_at "vis"); (case s9 => intro _; rfl); (case' s3 => walk_at "cp"); (case s4 => walk_at "nrm"); (case' s5 => intro _ _ _ _ _ _)))
local macro_rules | `(tactic| walk_at "two") => `(tactic| (refine' ep_setTwo (by assumption) (by assumption) (by assumption) ?s1 ?sd ?s2 ?t1 ?td ?t2 ?tn ?s3 ?s6 ?s7 ?s4 ?s5 ?s8 ?s9; (case s7 => rfl); (case s8 => rfl); (case s9 => rfl); (case s1 => walk_at "sel"); (case sd => first | rfl | assumption); (case s2 => walk_at "vis"); (case t1 => walk_at "sel"); (case td => first | rfl | assumption); (case t2 => walk_at "vis"); (case tn => decide); (case' s3 => walk_at "ep")))
local macro_rules | `(tactic| walk_at "twoL") => `(tactic| (refine' ep_setTwoL (by assumption) (by assumption) (by assumption) ?s1 ?sd ?s2 ?t1 ?td ?t2 ?tn ?s3 ?s6 ?s7 ?s4 ?s5 ?s8 ?s9; (case s7 => rfl); (case s8 => rfl); (case s9 => rfl); (case s1 => walk_at "sel"); (case sd => first | rfl | assumption); (case s2 => walk_at "vis"); (case t1 => walk_at "sel"); (case td => first | rfl | assumption); (case t2 => walk_at "vis"); (case tn => decide); (case' s3 => walk_at "ep")))
local macro_rules | `(tactic| walk_at "three") => `(tactic| (refine' ep_setThree (by assumption) (by assumption) (by assumption) ?s1 ?sd ?s2 ?t1 ?td ?t2 ?u1 ?ud ?u2 ?tn ?un1 ?un2 ?s3 ?s6 ?s4 ?s5 ?s8 ?s9; (case s8 => rfl); (case s9 => rfl); (case s1 => walk_at "sel"); (case sd => first | rfl | assumption); (case s2 => walk_at "vis"); (case t1 => walk_at "sel"); (case td => first | rfl | assumption); (case t2 => walk_at "vis"); (case u1 => walk_at "sel"); (case ud => first | rfl | assumption); (case u2 => walk_at "vis"); (case tn => decide); (case un1 => decide); (case un2 => decide); (case' s3 => walk_at "ep")))
/-! ## words for objects -/
local macro_rules | `(tactic| walk_at "fs") => `(tactic| repeat (first | with_reducible exact FSel.here | ((with_reducible refine FSel.there ?_ ?_); (exact (by decide +kernel)))))
local macro_rules | `(tactic| walk_at "kx") => `(tactic| repeat (first | with_reducible exact Kx.here | with_reducible apply Kx.there))
local macro_rules | `(tactic| walk_at "csel") => `(tactic| repeat (first | with_reducible exact CSel.here | with_reducible apply CSel.there))
local macro_rules | `(tactic| walk_at "kn") => `(tactic| first
  | ((with_reducible refine' kn_obj ?kka_kn_obj ?kkb_kn_obj); (case kka_kn_obj => walk_at "kx"); (case kkb_kn_obj => walk_at "csel"))
  | ((with_reducible refine' kn_res ?kka_kn_res ?kkb_kn_res); (case kka_kn_res => walk_at "kx"); (case kkb_kn_res => walk_at "csel"))
  | fail)
local macro_rules | `(tactic| walk_at "vp") => `(tactic| first
  | ((with_reducible refine' vp_fld (by assumption) ?fo_vp_fld ?fk_vp_fld ?fT_vp_fld ?fn_vp_fld ?fl_vp_fld ?fb_vp_fld); (case' fo_vp_fld => walk_at "vp"); (case fk_vp_fld => walk_at "kn"); (case fT_vp_fld => assumption); (case fn_vp_fld => assumption); (case fl_vp_fld => walk_at "fs"); (case fb_vp_fld => rfl))
  | ((with_reducible refine' vp_res (by assumption) ?nsel_vp_res ?nvis_vp_res ?nhd_vp_res ?nhc_vp_res); (case nsel_vp_res => walk_at "sel"); (case nvis_vp_res => walk_at "vis"); (case nhd_vp_res => walk_at "vis"); (case nhc_vp_res => walk_at "vis"))
  | ((with_reducible refine' vp_obj (by assumption) ?nsel_vp_obj ?nvis_vp_obj ?nhd_vp_obj ?nhc_vp_obj); (case nsel_vp_obj => walk_at "sel"); (case nvis_vp_obj => walk_at "vis"); (case nhd_vp_obj => walk_at "vis"); (case nhc_vp_obj => walk_at "vis"))
  | ((with_reducible refine' vp_raw (by assumption) ?nsel_vp_raw ?nvis_vp_raw ?nhd_vp_raw ?nhc_vp_raw); (case nsel_vp_raw => walk_at "sel"); (case nvis_vp_raw => walk_at "vis"); (case nhd_vp_raw => walk_at "vis"); (case nhc_vp_raw => walk_at "vis"))
  | fail)
local macro_rules | `(tactic| walk_at "ep") => `(tactic| first
  | ((with_reducible refine' ep_dget (by assumption) ?do__ep_dget ?di_ep_dget ?dk_ep_dget ?dl_ep_dget ?ds_ep_dget); (case ds_ep_dget => exact fun _ _ => rfl); (case do__ep_dget => walk_at "vp"); (case' di_ep_dget => walk_at "ep"); (case dk_ep_dget => walk_at "kn"); (case' dl_ep_dget => first | assumption | skip))
  | ((with_reducible refine' ep_dgetL (by assumption) ?do__ep_dgetL ?di_ep_dgetL ?dk_ep_dgetL ?dl_ep_dgetL ?ds_ep_dgetL); (case ds_ep_dgetL => exact fun _ _ => rfl); (case do__ep_dgetL => walk_at "vp"); (case' di_ep_dgetL => walk_at "ep"); (case dk_ep_dgetL => walk_at "kn"); (case' dl_ep_dgetL => first | assumption | skip))
  | ((with_reducible refine' ep_dlen (by assumption) (by assumption) ?do__ep_dlen ?dk_ep_dlen ?dg_ep_dlen ?ds_ep_dlen); (case ds_ep_dlen => rfl); (case do__ep_dlen => walk_at "vp"); (case dk_ep_dlen => walk_at "kn"); (case dg_ep_dlen => walk_at "vis"))
  | ((with_reducible refine' ep_dnotin (by assumption) ?do__ep_dnotin ?di_ep_dnotin ?dk_ep_dnotin ?ds_ep_dnotin); (case ds_ep_dnotin => rfl); (case do__ep_dnotin => walk_at "vp"); (case' di_ep_dnotin => walk_at "ep"); (case dk_ep_dnotin => walk_at "kn"))
  | fail)
local macro_rules | `(tactic| walk_at "tp") => `(tactic| first
  | ((with_reducible refine' tp_dnotin (by assumption) ?do__tp_dnotin ?di_tp_dnotin ?dk_tp_dnotin ?ds_tp_dnotin); (case ds_tp_dnotin => rfl); (case do__tp_dnotin => walk_at "vp"); (case' di_tp_dnotin => walk_at "ep"); (case dk_tp_dnotin => walk_at "kn"))
  | fail)
local macro_rules | `(tactic| walk_at "lp") => `(tactic| first
  | ((with_reducible refine' lp_afld ?lo_lp_afld ?lk_lp_afld); (case lo_lp_afld => walk_at "vp"); (case lk_lp_afld => walk_at "kn"))
  | fail)
local macro_rules | `(tactic| walk_at "np") => `(tactic| first
  | ((with_reducible refine' np_dlist (by assumption) (by assumption) ?do__np_dlist ?dk_np_dlist ?dg_np_dlist ?ds_np_dlist); (case ds_np_dlist => rfl); (case do__np_dlist => walk_at "vp"); (case dk_np_dlist => walk_at "kn"); (case dg_np_dlist => walk_at "vis"))
  | fail)
local macro_rules | `(tactic| walk_at "fint") => `(tactic| first
  | ((with_reducible refine' ep_afld ?vo_ep_afld); (case vo_ep_afld => walk_at "vp"))
  | fail)
local macro_rules | `(tactic| walk_at "ep") => `(tactic| first
  | walk_at "fint"
  | fail)
local macro_rules | `(tactic| walk_at "dput") => `(tactic| (refine' ws_dputV (by assumption) (by assumption) ?kka ?kkb ?do_ ?di ?de ?dl ?s4 ?s5 ?hs; (case hs => rfl); (case do_ => walk_at "vp"); (case kka => walk_at "kx"); (case kkb => walk_at "csel"); (case' di => walk_at "ep"); (case' de => walk_at "ep"); (case' dl => first | assumption | skip); (case s4 => walk_at "nrm"); (case' s5 => intro _ _ _)))
local macro_rules | `(tactic| walk_at "ep") => `(tactic| first
  | ((with_reducible refine' ep_anyT (by assumption) (by assumption) ?la_ep_anyT ?lg_ep_anyT ?lpl_ep_anyT); (case lpl_ep_anyT => rfl); (case' la_ep_anyT => walk_at "ep"); (case lg_ep_anyT => walk_at "vis"))
  | ((with_reducible refine' ep_all (by assumption) (by assumption) ?la_ep_all ?lg_ep_all ?lpl_ep_all); (case lpl_ep_all => rfl); (case' la_ep_all => walk_at "lp"); (case lg_ep_all => walk_at "vis"))
  | fail)
local macro_rules | `(tactic| walk_at "tp") => `(tactic| first
  | ((with_reducible refine' tp_lstE ?la_tp_lstE ?lw_tp_lstE); (case lw_tp_lstE => intro _; rfl); (case' la_tp_lstE => walk_at "ix"))
  | fail)
local macro_rules | `(tactic| walk_at "op") => `(tactic| first
  | ((with_reducible refine' do_catTI ?l_cti_do_catTI); (case' l_cti_do_catTI => first | omega | ((try simp only [List.length_append, List.length_cons, List.length_nil, List.length_map, List.length_take, List.length_drop, cap]); omega) | skip))
  | fail)
local macro_rules | `(tactic| walk_at "tp") => `(tactic| first
  | ((with_reducible refine' tp_neL (n := 8) (m := 8) (Cok.room (by assumption)).units ?a_nl_tp_neL ?b_nl_tp_neL ?n1_nl_tp_neL ?n2_nl_tp_neL (by decide) (by decide) ?x_nl_tp_neL); (case x_nl_tp_neL => first | rfl | exact nomark _); (case' a_nl_tp_neL => walk_at "lp"); (case' b_nl_tp_neL => walk_at "lp"); (case' n1_nl_tp_neL => walk_at "nd"); (case' n2_nl_tp_neL => walk_at "nd"))
  | ((with_reducible refine' tp_eqL (n := 8) (m := 8) (Cok.room (by assumption)).units ?a_nl_tp_eqL ?b_nl_tp_eqL ?n1_nl_tp_eqL ?n2_nl_tp_eqL (by decide) (by decide) ?x_nl_tp_eqL); (case x_nl_tp_eqL => first | rfl | exact nomark _); (case' a_nl_tp_eqL => walk_at "lp"); (case' b_nl_tp_eqL => walk_at "lp"); (case' n1_nl_tp_eqL => walk_at "nd"); (case' n2_nl_tp_eqL => walk_at "nd"))
  | fail)
local macro_rules | `(tactic| walk_at "np") => `(tactic| first
  | ((with_reducible refine' np_listRg (by assumption) (by assumption) (by assumption) ?a_lr_np_listRg ?h0_lr_np_listRg ?h1_lr_np_listRg ?g_lr_np_listRg ?g2_lr_np_listRg ?pl_lr_np_listRg); (case pl_lr_np_listRg => rfl); (case' a_lr_np_listRg => walk_at "ep"); (case g_lr_np_listRg => walk_at "vis"); (case g2_lr_np_listRg => walk_at "vis"); (case' h0_lr_np_listRg => first | omega | skip); (case' h1_lr_np_listRg => first | omega | skip))
  | fail)
local macro_rules | `(tactic| walk_at "cp") => `(tactic| first
  | ((with_reducible refine' cp_listL0 (by assumption) ?rx_l0_cp_listL0 ?rd_l0_cp_listL0 ?rs_l0_cp_listL0 ?rok_l0_cp_listL0 ?rl_l0_cp_listL0 ?rf_l0_cp_listL0 ?rE_l0_cp_listL0); (case rx_l0_cp_listL0 => walk_at "sel"); (case rd_l0_cp_listL0 => first | rfl | assumption); (case' rs_l0_cp_listL0 => walk_at "lp"); (case rok_l0_cp_listL0 => walk_at "vis"); (case rl_l0_cp_listL0 => walk_at "vis"); (case rf_l0_cp_listL0 => walk_at "vis"); (case' rE_l0_cp_listL0 => intro y hy; walk_at "lc"; walk_at "ep"))
  | fail)
local macro_rules | `(tactic| walk_at "par") => `(tactic| (refine' ws_par (by assumption) (by assumption) ?s1 ?sd ?s2 ?t1 ?td ?t2 ?tn ?s3 ?s6 ?s4 ?s5 ?s8 ?s9; (case s8 => (intro env henv; cases env; cases henv; rfl)); (case s9 => rfl); (case s1 => walk_at "sel"); (case sd => first | rfl | assumption); (case s2 => walk_at "vis"); (case t1 => walk_at "sel"); (case td => first | rfl | assumption); (case t2 => walk_at "vis"); (case tn => decide); (case' s3 => walk_at "ep"); (case' s6 => walk_at "ep"); (case s4 => walk_at "nrm"); (case' s5 => intro _ _ _ _)))
local macro_rules | `(tactic| walk_at "ep") => `(tactic| first
  | ((with_reducible refine' ep_inT ?ba_int_ep_inT ?bb_int_ep_inT ?bm_int_ep_inT); (case bm_int_ep_inT => rfl); (case' ba_int_ep_inT => walk_at "ep"); (case' bb_int_ep_inT => walk_at "call"))
  | fail)
local macro_rules | `(tactic| walk_at "call") => `(tactic| ((with_reducible refine' c_whole (by assumption) (by assumption) ?g0_c_whole ?g1_c_whole ?a0_c_whole ?l0_c_whole); (case g0_c_whole => first | assumption | omega | decide); (case g1_c_whole => walk_at "vis"); (case l0_c_whole => rfl); (case' a0_c_whole => walk_at "ep")))
local macro_rules | `(tactic| walk_at "call") => `(tactic| ((with_reducible refine' c_cell (by assumption) (by assumption) ?g0_c_cell ?g1_c_cell ?a0_c_cell ?v0_c_cell ?d0_c_cell ?c0_c_cell ?a1_c_cell ?l1_c_cell ?h0_c_cell); (case g0_c_cell => first | assumption | omega | decide); (case g1_c_cell => walk_at "vis"); (case a0_c_cell => walk_at "sel"); (case v0_c_cell => walk_at "vis"); (case d0_c_cell => walk_at "vis"); (case c0_c_cell => walk_at "vis"); (case l1_c_cell => rfl); (case' a1_c_cell => walk_at "ep"); (case' h0_c_cell => first | omega | assumption | skip)))
local macro_rules | `(tactic| walk_at "call") => `(tactic| ((with_reducible refine' c_mix (by assumption) (by assumption) ?g0_c_mix ?g1_c_mix ?a0_c_mix ?l0_c_mix ?a1_c_mix ?l1_c_mix ?a2_c_mix ?l2_c_mix ?h0_c_mix ?h1_c_mix); (case g0_c_mix => first | assumption | omega | decide); (case g1_c_mix => walk_at "vis"); (case l0_c_mix => rfl); (case' a0_c_mix => walk_at "ep"); (case l1_c_mix => rfl); (case' a1_c_mix => walk_at "ep"); (case l2_c_mix => rfl); (case' a2_c_mix => walk_at "ep"); (case' h0_c_mix => first | omega | assumption | skip); (case' h1_c_mix => first | omega | assumption | skip)))
local macro_rules | `(tactic| walk_at "call") => `(tactic| ((with_reducible refine' c_mixed (by assumption) (by assumption) ?g0_c_mixed ?g1_c_mixed ?a0_c_mixed ?l0_c_mixed ?a1_c_mixed ?l1_c_mixed ?a2_c_mixed ?l2_c_mixed ?h0_c_mixed); (case g0_c_mixed => first | assumption | omega | decide); (case g1_c_mixed => walk_at "vis"); (case l0_c_mixed => rfl); (case' a0_c_mixed => walk_at "ep"); (case l1_c_mixed => rfl); (case' a1_c_mixed => walk_at "ep"); (case l2_c_mixed => rfl); (case' a2_c_mixed => walk_at "ep"); (case' h0_c_mixed => first | omega | assumption | skip)))
local macro_rules | `(tactic| walk_at "call") => `(tactic| ((with_reducible refine' c_bits (by assumption) (by assumption) ?g0_c_bits ?g1_c_bits ?a0_c_bits ?l0_c_bits ?a1_c_bits ?l1_c_bits ?h0_c_bits ?h1_c_bits); (case g0_c_bits => first | assumption | omega | decide); (case g1_c_bits => walk_at "vis"); (case l0_c_bits => rfl); (case' a0_c_bits => walk_at "ep"); (case l1_c_bits => rfl); (case' a1_c_bits => walk_at "ep"); (case' h0_c_bits => first | omega | assumption | skip); (case' h1_c_bits => first | omega | assumption | skip)))
local macro_rules | `(tactic| walk_at "call") => `(tactic| ((with_reducible refine' c_set (by assumption) (by assumption) ?g0_c_set ?g1_c_set ?a0_c_set ?l0_c_set ?a1_c_set ?l1_c_set ?h0_c_set ?h1_c_set); (case g0_c_set => first | assumption | omega | decide); (case g1_c_set => walk_at "vis"); (case l0_c_set => rfl); (case' a0_c_set => walk_at "ep"); (case l1_c_set => rfl); (case' a1_c_set => walk_at "ep"); (case' h0_c_set => first | omega | assumption | skip); (case' h1_c_set => first | omega | assumption | skip)))
local macro_rules | `(tactic| walk_at "call") => `(tactic| ((with_reducible refine' c_sizes (by assumption) (by assumption) ?g0_c_sizes ?g1_c_sizes ?a0_c_sizes ?l0_c_sizes ?a1_c_sizes ?l1_c_sizes); (case g0_c_sizes => first | assumption | omega | decide); (case g1_c_sizes => walk_at "vis"); (case l0_c_sizes => rfl); (case' a0_c_sizes => walk_at "ep"); (case l1_c_sizes => rfl); (case' a1_c_sizes => walk_at "ep")))
local macro_rules | `(tactic| walk_at "call") => `(tactic| ((with_reducible refine' c_rises (by assumption) (by assumption) ?g0_c_rises ?g1_c_rises ?a0_c_rises ?l0_c_rises ?a1_c_rises ?l1_c_rises); (case g0_c_rises => first | assumption | omega | decide); (case g1_c_rises => walk_at "vis"); (case l0_c_rises => rfl); (case' a0_c_rises => walk_at "lp"); (case l1_c_rises => rfl); (case' a1_c_rises => walk_at "ep")))
theorem ok_whole {M : Md} {f : Addr} {fd : FuncData} {k : Nat} (Fu : Fun M.K "_law_whole" "_law_whole" sWhole f fd) (m1 : M.mg "isinstance" = none) (m2 : M.mg "int" = none) (m3 : M.mg "bool" = none) : FnOk M.P M.w M.K M.mg M.base (L2.CX M.P M.w) (k + 1) f fd ["_law_found"] (spP M.K R_whole) := by
  refine pure_def 0 Fu scWhole (fun ars d h => ?_) rfl fun X F σ ars d Γ C Bk h hΓ E => ?_
  · obtain ⟨_, rfl, _⟩ := h; rfl
  obtain ⟨a, rfl, rfl⟩ := h
  simp only [List.map_cons, List.map_nil, Ar.kd, List.cons_append, List.nil_append, List.replicate] at hΓ
  subst hΓ
  cases a <;> (walk_at "ret"; first | rfl | skip)
theorem ok_cell {M : Md} {f : Addr} {fd : FuncData} {k : Nat} (Fu : Fun M.K "_law_cell_at" "_law_cell_at" sCell f fd) (m1 : M.mg "len" = none) : FnOk M.P M.w M.K M.mg M.base (L2.CX M.P M.w) (k + 1) f fd ["_law_script", "_law_k"] (spP M.K R_cell) := by
  refine pure_def 0 Fu scCell (fun ars d h => ?_) rfl fun X F σ ars d Γ C Bk h hΓ E => ?_
  · obtain ⟨_, _, rfl, _⟩ := h; rfl
  obtain ⟨ns, j, rfl, h0, rfl⟩ := h
  simp only [List.map_cons, List.map_nil, Ar.kd, List.cons_append, List.nil_append, List.replicate] at hΓ
  subst hΓ
  walk_at "if"
  · rename_i hc _ _ _
    rw [decide_eq_true_eq] at hc
    walk_at "ret"
    unfold cellAt
    rw [if_pos hc]
  · rename_i hc _ _ _
    rw [decide_eq_false_iff_not] at hc
    refine ws_nil ?_
    walk_at "ret"
    unfold cellAt
    rw [if_neg hc]
theorem ok_mix {M : Md} {f : Addr} {fd : FuncData} {k : Nat} (Fu : Fun M.K "_law_mix" "_law_mix" sMix f fd) : FnOk M.P M.w M.K M.mg M.base (L2.CX M.P M.w) (k + 1) f fd ["_law_cell", "_law_prime", "_law_many"] (spP M.K R_mix) := by
  refine pure_def 0 Fu scMix (fun ars d h => ?_) rfl fun X F σ ars d Γ C Bk h hΓ E => ?_
  · obtain ⟨_, _, _, rfl, _⟩ := h; rfl
  obtain ⟨c, q, n, rfl, h0, h1, rfl⟩ := h
  simp only [List.map_cons, List.map_nil, Ar.kd, List.cons_append, List.nil_append, List.replicate] at hΓ
  subst hΓ
  walk_at "ret"
  rfl
theorem ok_mixed {M : Md} {f : Addr} {fd : FuncData} {k : Nat} (Fu : Fun M.K "_law_mixed" "_law_mixed" sMixed f fd) : FnOk M.P M.w M.K M.mg M.base (L2.CX M.P M.w) (k + 1) f fd ["_law_cell", "_law_k", "_law_many"] (spP M.K R_mixed) := by
  refine pure_def 1 Fu scMixed (fun ars d h => ?_) rfl fun X F σ ars d Γ C Bk h hΓ E => ?_
  · obtain ⟨_, _, _, rfl, _⟩ := h; rfl
  obtain ⟨c, j, n, rfl, h0, rfl⟩ := h
  simp only [List.map_cons, List.map_nil, Ar.kd, List.cons_append, List.nil_append, List.replicate] at hΓ
  subst hΓ
  walk_at "set"
  walk_at "ret"
  rfl
theorem ok_bits {M : Md} {f : Addr} {fd : FuncData} {k : Nat} (Fu : Fun M.K "_law_bits" "_law_bits" sBits f fd) (hX : FnA M 1 "_law_mixed" R_mixed) (hk : 1 ≤ k) (m1 : M.mg "range" = none) (m2 : M.mg "tuple" = none) : FnOk M.P M.w M.K M.mg M.base (L2.CX M.P M.w) (k + 1) f fd ["_law_cell", "_law_wide"] (spP M.K R_bits) := by
  refine pure_def 1 Fu scBits (fun ars d h => ?_) rfl fun X F σ ars d Γ C Bk h hΓ E => ?_
  · obtain ⟨_, _, rfl, _⟩ := h; rfl
  obtain ⟨c, w, rfl, h0, h1, rfl⟩ := h
  simp only [List.map_cons, List.map_nil, Ar.kd, List.cons_append, List.nil_append, List.replicate] at hΓ
  subst hΓ
  walk_at "ret"
  rfl
theorem ok_set {M : Md} {f : Addr} {fd : FuncData} {k : Nat} (Fu : Fun M.K "_law_set" "_law_set" sSet f fd) (hM : FnA M 1 "_law_mix" R_mix) (hX : FnA M 1 "_law_mixed" R_mixed) (hk : 1 ≤ k) (m1 : M.mg "range" = none) (m2 : M.mg "sorted" = none) (m3 : M.mg "set" = none) : FnOk M.P M.w M.K M.mg M.base (L2.CX M.P M.w) (k + 1) f fd ["_law_cell", "_law_many"] (spP M.K R_set) := by
  refine pure_def 2 Fu scSet (fun ars d h => ?_) rfl fun X F σ ars d Γ C Bk h hΓ E => ?_
  · obtain ⟨_, _, rfl, _⟩ := h; rfl
  obtain ⟨c, n, rfl, h0, h1, rfl⟩ := h
  simp only [List.map_cons, List.map_nil, Ar.kd, List.cons_append, List.nil_append, List.replicate] at hΓ
  subst hΓ
  walk_at "set"
  walk_at "if"
  · rename_i hc _ _ _
    rw [decide_eq_true_eq] at hc
    walk_at "ret"
    unfold setI
    rw [if_pos hc]; rfl
  · rename_i hc _ _ _
    rw [decide_eq_false_iff_not] at hc
    refine ws_nil ?_
    walk_at "if"
    · rename_i hc2 _ _ _
      rw [decide_eq_true_eq] at hc2
      walk_at "ret"
      all_goals first | (simp only [List.length_cons, List.length_nil]; omega) | (unfold setI; rw [if_neg hc, if_pos hc2])
    · rename_i hc2 _ _ _
      rw [decide_eq_false_iff_not] at hc2
      refine ws_nil ?_
      walk_at "ret"
      unfold setI
      rw [if_neg hc, if_neg hc2]
theorem ok_sizes {M : Md} {f : Addr} {fd : FuncData} {k : Nat} (Fu : Fun M.K "_law_sizes" "_law_sizes" sSizes f fd) (hM : FnA M 1 "_law_mix" R_mix) (hk : 1 ≤ k) : FnOk M.P M.w M.K M.mg M.base (L2.CX M.P M.w) (k + 1) f fd ["_law_one", "_law_other"] (spP M.K R_sizes) := by
  refine pure_def 2 Fu scSizes (fun ars d h => ?_) rfl fun X F σ ars d Γ C Bk h hΓ E => ?_
  · obtain ⟨_, _, rfl, _⟩ := h; rfl
  obtain ⟨a, b, rfl, rfl⟩ := h
  simp only [List.map_cons, List.map_nil, Ar.kd, List.cons_append, List.nil_append, List.replicate] at hΓ
  subst hΓ
  have q1 : 0 ≤ mixI a 10103 3 ∧ mixI a 10103 3 < 3 := by unfold mixI; omega
  have q2 : 0 ≤ mixI b 10111 2 ∧ mixI b 10111 2 < 2 := by unfold mixI; omega
  walk_at "set"
  walk_at "set"
  walk_at "ret"
  rfl
theorem ok_rises {M : Md} {f : Addr} {fd : FuncData} {k : Nat} (Fu : Fun M.K "rising_within" "rising_within" sRises f fd) : FnOk M.P M.w M.K M.mg M.base (L2.CX M.P M.w) (k + 1) f fd ["places", "many"] (spP M.K R_rises) := by
  refine pure_def 2 Fu scRises (fun ars d h => ?_) rfl fun X F σ ars d Γ C Bk h hΓ E => ?_
  · obtain ⟨_, _, rfl, _⟩ := h; rfl
  obtain ⟨ps, n, rfl, rfl⟩ := h
  simp only [List.map_cons, List.map_nil, Ar.kd, List.cons_append, List.nil_append, List.replicate] at hΓ
  subst hΓ
  walk_at "set"
  refine' ws_forA (i := 3) (f := .int) (xs := ps) (pRt _) (fun j Γ => ∃ (k : Kd) (last : Int), k.dry = true ∧ risesF (-1) n ps = risesF last n (ps.drop j) ∧ Γ = [.arg (.lst (ps.map .int)), .val (.int n), .val (.int last), k]) (fun _ => False) (by assumption) (by assumption) (by assumption) rfl ?gL ?gS ?gU pRt_mono rfl ?gJ ?g0 ?gB ?gE ?gd ?gc
  case gL => walk_at "vis"
  case gS => walk_at "sel"
  case gU => walk_at "vis"
  case gd => walk_at "vis"
  case gc => walk_at "vis"
  case gJ => rintro j Γ ⟨k, last, hk, _, rfl⟩; exact ⟨k, rfl, hk⟩
  case g0 => exact ⟨.un, -1, rfl, rfl, rfl⟩
  case gB =>
    rintro G1 C1 j y Γ hy ⟨k, last, hk, hr, rfl⟩ σ G H Fs E
    simp only [List.set_cons_succ, List.set_cons_zero] at E
    have hd : ps.drop j = y :: ps.drop (j + 1) := by
      obtain ⟨hj, e⟩ := List.getElem?_eq_some_iff.mp hy
      rw [← e]; exact List.drop_eq_getElem_cons hj
    rw [hd] at hr
    rw [risesF_cons] at hr
    walk_at "if"
    · rename_i hc _ _ _
      rw [Bool.or_eq_true, decide_eq_true_eq, decide_eq_true_eq] at hc
      walk_at "ret"
      rw [hr, if_pos hc]
    · rename_i hc _ _ _
      rw [Bool.or_eq_false_iff, decide_eq_false_iff_not, decide_eq_false_iff_not] at hc
      refine ws_nil ?_
      walk_at "set"
      refine ws_nil ⟨_, _, _, by assumption, _, y, rfl, ?_, rfl⟩
      rw [if_neg (by omega)] at hr
      exact hr
  case gE =>
    rintro Γ (⟨k, last, hk, hr, rfl⟩ | hn) σ G H Fs E
    · walk_at "ret"
      rw [hr, List.drop_of_length_le (Nat.le_refl _)]; rfl
    · exact hn.elim
def okSign (c : Nat) : Bool := decide (signS c ∈ [("0" : Str), "1"])
def bitsF (wide : Int) (w : Str) : Option (List Int) := if (w.length : Int) = wide ∧ w.cps.toList.all okSign = true then some (w.cps.toList.map fun (c : Nat) => (c : Int) - 48) else none
theorem okSign_iff {c : Nat} : okSign c = true ↔ c = 48 ∨ c = 49 := by
  unfold okSign
  rw [decide_eq_true_eq, List.mem_cons, List.mem_singleton]
  have h0 : ("0" : Str) = signS 48 := by rfl
  have h1 : ("1" : Str) = signS 49 := by rfl
  rw [h0, h1]
  constructor
  · rintro (h | h)
    · left; injection h with h; simpa using h
    · right; injection h with h; simpa using h
  · rintro (rfl | rfl)
    · exact .inl rfl
    · exact .inr rfl
theorem int_sign {c : Nat} (h : okSign c = true) : PySem.intText? (signS c) = some ((c : Int) - 48) := by
  rcases okSign_iff.mp h with rfl | rfl <;> decide +kernel
def R_bitsof : List Ar → PyData → Prop := fun ars d => ∃ (w : Str) (wide : Int) (V : List Int), ars = [.dat (.str w), .dat (.int wide)] ∧ w.length ≤ 1000 ∧ bitsF wide w = some V ∧ d = tupI V
def RX_bitsof (CB : Addr) : List Ar → Addr → Prop := fun ars C => ∃ (w : Str) (wide : Int), ars = [.dat (.str w), .dat (.int wide)] ∧ w.length ≤ 1000 ∧ bitsF wide w = none ∧ C = CB
theorem ok_bitsof {M : Md} {f : Addr} {fd : FuncData} {k : Nat} {CB : Addr} (Fu : Fun M.K "bits_of" "bits_of" sBitsOf f fd) (LB : ClsX M "BadText" CB) (m1 : M.mg "len" = none) (m2 : M.mg "all" = none) (m3 : M.mg "tuple" = none) (m4 : M.mg "int" = none) : FnOk M.P M.w M.K M.mg M.base (L2.CX M.P M.w) (k + 1) f fd ["word", "wide"] (spX M.K R_bitsof (RX_bitsof CB)) := by
  refine raise_def 1 Fu scBitsOf (fun ars d h => ?_) (fun ars C h => ?_) rfl (fun X F σ ars d Γ C Bk h hΓ E => ?_) (fun X F σ ars CC Γ C Bk tk h hΓ E => ?_)
  · obtain ⟨_, _, _, rfl, _⟩ := h; rfl
  · obtain ⟨_, _, rfl, _⟩ := h; rfl
  · obtain ⟨w, wide, V, rfl, hw, hb, rfl⟩ := h
    simp only [List.map_cons, List.map_nil, Ar.kd, List.cons_append, List.nil_append, List.replicate] at hΓ
    subst hΓ
    unfold bitsF at hb
    split at hb
    case isFalse => cases hb
    rename_i hc
    cases hb
    obtain ⟨h1, h2⟩ := hc
    refine' ws_if (t := false) (by assumption) ?s1 (fun h => nomatch h) ?s3
    case s1 =>
      refine TP_.eq (WT.tp (wt_or (t := false) (u := false) (TP_.eq (tp_cmp (da := .int (w.length : Int)) (db := .int wide) (ep_lenStr C m1 (by walk_at "ep") (by omega)) (by walk_at "ep") do_neI (by first | rfl | exact nomark _)) (by rw [decide_eq_true h1]; rfl)) fun _ => wt_or1 (tp_not (t := true) (tp_val (EP.eq (ep_all (bs := w.cps.toList.map okSign) C m2 (NP.lp (NP.eq (np_lc C ?c1 (by intro _; rfl)) (show (w.cps.toList.map fun c => PyData.bool (okSign c)) = (w.cps.toList.map okSign).map .bool from by rw [List.map_map]; rfl))) (by decide +kernel)) (by rw [List.all_map]; exact congrArg PyData.bool h2)) (by intro _; rfl))))) rfl
      case c1 =>
        refine' cp_str (i := 2) (fE := fun c => PyData.bool (okSign c)) (by assumption) ?rx ?rd ?rs ?rz ?rok ?rl ?rf ?rE
        case rx => walk_at "sel"
        case rd => rfl
        case rs => walk_at "ep"
        case rz => exact hw
        case rok => walk_at "vis"
        case rl => walk_at "vis"
        case rf => walk_at "vis"
        case rE =>
          intro c hc
          walk_at "lc"
          exact ep_inST (ss := ["0", "1"]) (by walk_at "ep") (ep_tup (ds := [.str "0", .str "1"]) (by walk_at "ap") (by simp [cap])) rfl
    case s3 =>
      intro _ G H E
      refine ws_nil ?_
      refine ws_retP E (EP.eq (ep_tuple C m3 (NP.lp (np_lc (ds := w.cps.toList.map fun (c : Nat) => PyData.int ((c : Int) - 48)) C ?c2 (by intro _; rfl)))) ?e) rfl
      case c2 =>
        refine' cp_str (i := 2) (fE := fun (c : Nat) => PyData.int ((c : Int) - 48)) (by assumption) ?rx ?rd ?rs ?rz ?rok ?rl ?rf ?rE
        case rx => walk_at "sel"
        case rd => rfl
        case rs => walk_at "ep"
        case rz => exact hw
        case rok => walk_at "vis"
        case rl => walk_at "vis"
        case rf => walk_at "vis"
        case rE =>
          intro c hc
          have hs := int_sign (List.all_eq_true.mp h2 c hc)
          walk_at "lc"
          exact ep_intS (by assumption) m4 (by walk_at "ep") hs (by show 1 ≤ 640; decide)
      case e => unfold tupI; rw [List.map_map]; rfl
  · obtain ⟨w, wide, rfl, hw, hb, rfl⟩ := h
    simp only [List.map_cons, List.map_nil, Ar.kd, List.cons_append, List.nil_append, List.replicate] at hΓ
    subst hΓ
    refine' ws_if (t := true) (by assumption) ?s1 ?s2 (fun h => nomatch h)
    case s2 =>
      intro _ G H E
      exact ws_raise C tk LB (by decide +kernel) (by decide +kernel) ⟨rfl, rfl, _, Env.done (by assumption)⟩
    case s1 =>
      have hb2 : ¬ ((w.length : Int) = wide ∧ w.cps.toList.all okSign = true) := fun z => by unfold bitsF at hb; rw [if_pos z] at hb; cases hb
      refine' TP_.eq (WT.tp (wt_or (t := !decide ((w.length : Int) = wide)) (u := !(w.cps.toList.all okSign)) (tp_cmp (da := .int (w.length : Int)) (db := .int wide) (ep_lenStr C m1 (by walk_at "ep") (by omega)) (by walk_at "ep") do_neI (by first | rfl | exact nomark _)) fun _ => wt_or1 (tp_not (tp_val ?p2 (by intro _; rfl))))) ?e
      case p2 =>
        refine EP.eq (ep_all (bs := w.cps.toList.map okSign) C m2 (NP.lp (NP.eq (np_lc C ?d1 (by intro _; rfl)) (show (w.cps.toList.map fun c => PyData.bool (okSign c)) = (w.cps.toList.map okSign).map .bool from by rw [List.map_map]; rfl))) (by decide +kernel)) (by rw [List.all_map]; rfl)
        case d1 =>
        refine' cp_str (i := 2) (fE := fun c => PyData.bool (okSign c)) (by assumption) ?rxx ?rdx ?rsx ?rzx ?rokx ?rlx ?rfx ?rEx
        case rxx => walk_at "sel"
        case rdx => rfl
        case rsx => walk_at "ep"
        case rzx => exact hw
        case rokx => walk_at "vis"
        case rlx => walk_at "vis"
        case rfx => walk_at "vis"
        case rEx =>
          intro c hc
          walk_at "lc"
          exact ep_inST (ss := ["0", "1"]) (by walk_at "ep") (ep_tup (ds := [.str "0", .str "1"]) (by walk_at "ap") (by simp [cap])) rfl
      case e =>
        by_cases h1 : (w.length : Int) = wide
        · have h2 : ¬ w.cps.toList.all okSign = true := fun z => hb2 ⟨h1, z⟩
          have h3 : w.cps.toList.all okSign = false := by simpa using h2
          rw [decide_eq_true h1, h3]; rfl
        · rw [decide_eq_false h1]; rfl
theorem numS_inj {m n : Nat} (h : numS (m : Int) = numS (n : Int)) : m = n := by
  have := congrArg TL.tl h
  unfold numS at this
  rw [TL.tl_num, TL.tl_num] at this
  exact TL.numL_inj this
theorem num_log {j : Nat} (h : j < 1000) : ((j : Int)).natAbs.log2 < 1920 := by
  rw [Int.natAbs_natCast]
  have := Nat.log2_le_self j
  omega
def knownL (many : Int) : List (Str × Int) := (List.range many.toNat).map fun (j : Nat) => (numS (j : Int), (j : Int))
def placesF (many : Int) (ws : List Str) : Option (List Int) := if ws.all (fun w => (slook (knownL many) w).isSome) = true then (if risesF (-1) many (ws.map fun w => (slook (knownL many) w).getD 0) = true then some (ws.map fun w => (slook (knownL many) w).getD 0) else none) else none
def R_placesof : List Ar → PyData → Prop := fun ars d => ∃ (ws : List Str) (many : Int) (P : List Int), ars = [.lst (ws.map .str), .dat (.int many)] ∧ 0 ≤ many ∧ many ≤ 1000 ∧ ws.length ≤ 1000 ∧ placesF many ws = some P ∧ d = lstI P
def RX_placesof (CB : Addr) : List Ar → Addr → Prop := fun ars C => ∃ (ws : List Str) (many : Int), ars = [.lst (ws.map .str), .dat (.int many)] ∧ 0 ≤ many ∧ many ≤ 1000 ∧ ws.length ≤ 1000 ∧ placesF many ws = none ∧ C = CB
theorem ok_placesof {M : Md} {f : Addr} {fd : FuncData} {k : Nat} {CB : Addr} (Fu : Fun M.K "places_of" "places_of" sPlacesOf f fd) (LB : ClsX M "BadText" CB) (hR : FnA M 1 "rising_within" R_rises) (hk : 1 ≤ k) (m1 : M.mg "range" = none) (m2 : M.mg "str" = none) (m3 : M.mg "all" = none) : FnOk M.P M.w M.K M.mg M.base (L2.CX M.P M.w) (k + 1) f fd ["words", "many"] (spX M.K R_placesof (RX_placesof CB)) := by
  refine raise_def 4 Fu scPlacesOf (fun ars d h => ?_) (fun ars C h => ?_) rfl (fun X F σ ars d Γ C Bk h hΓ E => ?_) (fun X F σ ars CC Γ C Bk tk h hΓ E => ?_)
  · obtain ⟨_, _, _, rfl, _⟩ := h; rfl
  · obtain ⟨_, _, rfl, _⟩ := h; rfl
  · obtain ⟨ws, many, P, rfl, h0, h1, h2, hp, rfl⟩ := h
    simp only [List.map_cons, List.map_nil, Ar.kd, List.cons_append, List.nil_append, List.replicate] at hΓ
    subst hΓ
    unfold placesF at hp
    split at hp
    case isFalse => cases hp
    rename_i hall
    split at hp
    case isFalse => cases hp
    rename_i hris
    cases hp
    refine ws_setMD (iy := 3) C Bk E (.there (.there (.there .here))) (by decide +kernel) (me_dcR (i := 2) (k := .un) (m := many) (ky := fun j => numS (j : Int)) C m1 (.there (.there .here)) rfl (by walk_at "ep") h1 h0 (by decide +kernel) (by decide +kernel) (by walk_at "vis") (by decide +kernel) rfl (fun j j' _ _ z => numS_inj z) (fun j hj s H0 C0 cl fp C' => ?kK) (fun j hj s H0 C0 cl fp C' => ?kV) (by intro _; rfl)) (fun v => rfl) (fun v3 σ G H Fs E => ?_)
    case kK =>
      simp only [List.set_cons_zero, List.set_cons_succ]
      exact ep_strI C' m2 (by walk_at "ep") (num_log (by omega))
    case kV =>
      simp only [List.set_cons_zero, List.set_cons_succ]
      walk_at "ep"
    simp only [List.set_cons_zero, List.set_cons_succ] at E
    change Env F _ _ _ [.arg (.lst (ws.map .str)), .val (.int many), .un, .res v3 (dcS (knownL many)), .un, .un] _ at E
    refine' ws_if (t := false) (by assumption) ?s1 (fun h => nomatch h) ?s3
    case s1 =>
      refine TP_.eq (tp_not (t := true) (tp_val (EP.eq (ep_all (bs := ws.map fun w => (slook (knownL many) w).isSome) C m3 (NP.lp (NP.eq (np_lc (ds := ws.map fun w => PyData.bool (slook (knownL many) w).isSome) C ?c1 (by intro _; rfl)) (by rw [List.map_map]; rfl))) (by decide +kernel)) (by rw [List.all_map]; exact congrArg PyData.bool hall)) (by intro _; rfl))) (by rfl)
      case c1 =>
        refine' cp_list0 (i := 4) (f := PyData.str) (fE := fun w => PyData.bool (slook (knownL many) w).isSome) (xs := ws) (by assumption) ?rx ?rd ?rs ?rok ?rl ?rf ?rE
        case rx => walk_at "sel"
        case rd => rfl
        case rs => walk_at "lp"
        case rok => walk_at "vis"
        case rl => walk_at "vis"
        case rf => walk_at "vis"
        case rE =>
          intro y hy
          walk_at "lc"
          exact ep_dinS (i := 3) (by assumption) (by walk_at "sel") (by decide +kernel) (by walk_at "ep") rfl (by decide +kernel) (by decide +kernel)
    case s3 =>
      intro _ G H E
      refine ws_nil ?_
      refine' ws_ownLc (i := 5) (by assumption) (by assumption) (by assumption) ?t1 ?td ?t2 ?t6 ?t3 ?t7 ?t8 ?t9 ?t4 ?t5
      case t1 => walk_at "sel"
      case td => first | rfl | assumption
      case t2 => walk_at "vis"
      case t6 => rfl
      case t7 => rfl
      case t8 => walk_at "vis"
      case t9 => intro _; rfl
      case' t3 =>
        refine' cp_listI0 (i := 4) (f := PyData.str) (g := fun w => (slook (knownL many) w).getD 0) (xs := ws) (by assumption) ?vx ?vd ?vs ?vok ?vl ?vf ?vE
        case vx => walk_at "sel"
        case vd => rfl
        case vs => walk_at "lp"
        case vok => walk_at "vis"
        case vl => walk_at "vis"
        case vf => walk_at "vis"
        case vE =>
          intro y hy
          have hs : slook (knownL many) y = some ((slook (knownL many) y).getD 0) := by
            have := List.all_eq_true.mp hall y hy
            cases z : slook (knownL many) y with
            | none => rw [z] at this; cases this
            | some n => rfl
          walk_at "lc"
          exact ep_dgetS (i := 3) (by assumption) (by walk_at "sel") (by decide +kernel) (by walk_at "ep") hs (fun _ _ => rfl) (by decide +kernel) (by decide +kernel)
      case t4 => walk_at "nrm"
      case' t5 =>
      intro v5 σ G H Fs E
      refine' ws_if (t := false) (by assumption) ?u1 (fun h => nomatch h) ?u3
      case u1 => exact TP_.eq (by walk_at "tp") (by rw [hris]; rfl)
      case u3 =>
      intro _ G H E
      refine ws_nil ?_
      walk_at "frz"
      walk_at "ret"
      rfl
  · obtain ⟨ws, many, rfl, h0, h1, h2, hp, rfl⟩ := h
    simp only [List.map_cons, List.map_nil, Ar.kd, List.cons_append, List.nil_append, List.replicate] at hΓ
    subst hΓ
    refine ws_setMD (iy := 3) C Bk E (.there (.there (.there .here))) (by decide +kernel) (me_dcR (i := 2) (k := .un) (m := many) (ky := fun j => numS (j : Int)) C m1 (.there (.there .here)) rfl (by walk_at "ep") h1 h0 (by decide +kernel) (by decide +kernel) (by walk_at "vis") (by decide +kernel) rfl (fun j j' _ _ z => numS_inj z) (fun j hj s H0 C0 cl fp C' => ?kKR) (fun j hj s H0 C0 cl fp C' => ?kVR) (by intro _; rfl)) (fun v => rfl) (fun v3 σ G H Fs E => ?_)
    case kKR =>
      simp only [List.set_cons_zero, List.set_cons_succ]
      exact ep_strI C' m2 (by walk_at "ep") (num_log (by omega))
    case kVR =>
      simp only [List.set_cons_zero, List.set_cons_succ]
      walk_at "ep"
    simp only [List.set_cons_zero, List.set_cons_succ] at E
    change Env F _ _ _ [.arg (.lst (ws.map .str)), .val (.int many), .un, .res v3 (dcS (knownL many)), .un, .un] _ at E
    by_cases hall : ws.all (fun w => (slook (knownL many) w).isSome) = true
    · have hris : risesF (-1) many (ws.map fun w => (slook (knownL many) w).getD 0) = false := by
        cases z : risesF (-1) many (ws.map fun w => (slook (knownL many) w).getD 0) with
        | false => rfl
        | true => unfold placesF at hp; rw [if_pos hall, if_pos z] at hp; cases hp
      refine' ws_if (t := false) (by assumption) ?s1R (fun h => nomatch h) ?s3R
      case s1R =>
        refine TP_.eq (tp_not (t := true) (tp_val (EP.eq (ep_all (bs := ws.map fun w => (slook (knownL many) w).isSome) C m3 (NP.lp (NP.eq (np_lc (ds := ws.map fun w => PyData.bool (slook (knownL many) w).isSome) C ?c1R (by intro _; rfl)) (by rw [List.map_map]; rfl))) (by decide +kernel)) (by rw [List.all_map]; exact congrArg PyData.bool hall)) (by intro _; rfl))) (by rfl)
        case c1R =>
          refine' cp_list0 (i := 4) (f := PyData.str) (fE := fun w => PyData.bool (slook (knownL many) w).isSome) (xs := ws) (by assumption) ?rxR ?rdR ?rsR ?rokR ?rlR ?rfR ?rER
          case rxR => walk_at "sel"
          case rdR => rfl
          case rsR => walk_at "lp"
          case rokR => walk_at "vis"
          case rlR => walk_at "vis"
          case rfR => walk_at "vis"
          case rER =>
            intro y hy
            walk_at "lc"
            exact ep_dinS (i := 3) (by assumption) (by walk_at "sel") (by decide +kernel) (by walk_at "ep") rfl (by decide +kernel) (by decide +kernel)
      case s3R =>
        intro _ G H E
        refine ws_nil ?_
        refine' ws_ownLc (i := 5) (by assumption) (by assumption) (by assumption) ?t1R ?tdR ?t2R ?t6R ?t3R ?t7R ?t8R ?t9R ?t4R ?t5R
        case t1R => walk_at "sel"
        case tdR => first | rfl | assumption
        case t2R => walk_at "vis"
        case t6R => rfl
        case t7R => rfl
        case t8R => walk_at "vis"
        case t9R => intro _; rfl
        case' t3R =>
          refine' cp_listI0 (i := 4) (f := PyData.str) (g := fun w => (slook (knownL many) w).getD 0) (xs := ws) (by assumption) ?vxR ?vdR ?vsR ?vokR ?vlR ?vfR ?vER
          case vxR => walk_at "sel"
          case vdR => rfl
          case vsR => walk_at "lp"
          case vokR => walk_at "vis"
          case vlR => walk_at "vis"
          case vfR => walk_at "vis"
          case vER =>
            intro y hy
            have hs : slook (knownL many) y = some ((slook (knownL many) y).getD 0) := by
              have := List.all_eq_true.mp hall y hy
              cases z : slook (knownL many) y with
              | none => rw [z] at this; cases this
              | some n => rfl
            walk_at "lc"
            exact ep_dgetS (i := 3) (by assumption) (by walk_at "sel") (by decide +kernel) (by walk_at "ep") hs (fun _ _ => rfl) (by decide +kernel) (by decide +kernel)
        case t4R => walk_at "nrm"
        case' t5R =>
        intro v5 σ G H Fs E
        refine' ws_if (t := true) (by assumption) ?u1R ?u2R (fun h => nomatch h)
        case u1R => exact TP_.eq (by walk_at "tp") (by rw [hris]; rfl)
        case u2R =>
        intro _ G H E
        exact ws_raise C tk LB (by decide +kernel) (by decide +kernel) ⟨rfl, rfl, _, Env.done (by assumption)⟩
    · refine' ws_if (t := true) (by assumption) ?s1Q ?s2Q (fun h => nomatch h)
      case s1Q =>
        refine TP_.eq (tp_not (t := false) (tp_val (EP.eq (ep_all (bs := ws.map fun w => (slook (knownL many) w).isSome) C m3 (NP.lp (NP.eq (np_lc (ds := ws.map fun w => PyData.bool (slook (knownL many) w).isSome) C ?c1Q (by intro _; rfl)) (by rw [List.map_map]; rfl))) (by decide +kernel)) (by rw [List.all_map]; exact congrArg PyData.bool (by simpa using hall))) (by intro _; rfl))) (by rfl)
        case c1Q =>
          refine' cp_list0 (i := 4) (f := PyData.str) (fE := fun w => PyData.bool (slook (knownL many) w).isSome) (xs := ws) (by assumption) ?rxQ ?rdQ ?rsQ ?rokQ ?rlQ ?rfQ ?rEQ
          case rxQ => walk_at "sel"
          case rdQ => rfl
          case rsQ => walk_at "lp"
          case rokQ => walk_at "vis"
          case rlQ => walk_at "vis"
          case rfQ => walk_at "vis"
          case rEQ =>
            intro y hy
            walk_at "lc"
            exact ep_dinS (i := 3) (by assumption) (by walk_at "sel") (by decide +kernel) (by walk_at "ep") rfl (by decide +kernel) (by decide +kernel)
      case s2Q =>
        intro _ G H E
        exact ws_raise C tk LB (by decide +kernel) (by decide +kernel) ⟨rfl, rfl, _, Env.done (by assumption)⟩
theorem sum_le_str {ys : List Str} {b : Nat} (h : ∀ y ∈ ys, y.length ≤ b) : (ys.map (·.length)).sum ≤ ys.length * b := by
  induction ys with
  | nil => simp
  | cons y r ih =>
    have h1 := h y List.mem_cons_self
    have h2 := ih fun z hz => h z (List.mem_cons_of_mem _ hz)
    rw [List.map_cons, List.sum_cons, List.length_cons, Nat.succ_mul]
    omega
theorem numS_len {n : Int} (h0 : 0 ≤ n) (h1 : n < 1000) : (numS n).length ≤ 3 := by
  have e : n = ((n.toNat : Nat) : Int) := by omega
  rw [e]
  unfold numS
  rw [TL.len_tl, TL.tl_num]
  exact TL.numL_len (k := 3) (by decide) (by omega)
def bitsS (V : List Int) : Str := Txt.join ("" : Str) (V.map numS)
def wordsW (P V : List Int) : List Str := P.map numS ++ [("=" : Str), bitsS V]
def textW (ws : List Str) : Str := Txt.join (" " : Str) ws
theorem joinL_nil_map {V : List Int} (h : ∀ x ∈ V, 0 ≤ x ∧ x < 2) : TL.joinL [] (V.map fun x => TL.tl (numS x)) = V.map fun x => 48 + x.toNat := by
  have e : ∀ x : Int, 0 ≤ x ∧ x < 2 → TL.tl (numS x) = [48 + x.toNat] := fun x hx => by
    have ex : x = ((x.toNat : Nat) : Int) := by omega
    unfold numS
    rw [ex, TL.tl_num, TL.numL_lt (by omega)]; rfl
  induction V with
  | nil => rfl
  | cons a r ih =>
    have ih' := ih fun x hx => h x (List.mem_cons_of_mem _ hx)
    have ha := e a (h a List.mem_cons_self)
    cases r with
    | nil => show TL.tl (numS a) = _; rw [ha]; rfl
    | cons b t =>
      show TL.tl (numS a) ++ ([] ++ TL.joinL [] ((b :: t).map fun x => TL.tl (numS x))) = _
      rw [ih', ha]; rfl
theorem bitsS_tl {V : List Int} (h : ∀ x ∈ V, 0 ≤ x ∧ x < 2) : TL.tl (bitsS V) = V.map fun x => 48 + x.toNat := by
  unfold bitsS
  rw [TL.join_eq, TL.tl_join, List.map_map]
  exact joinL_nil_map h
theorem bitsS_len {V : List Int} (h : ∀ x ∈ V, 0 ≤ x ∧ x < 2) : (bitsS V).length = V.length := by
  rw [TL.len_tl, bitsS_tl h, List.length_map]
def R_shown : List Ar → PyData → Prop := fun ars d => ∃ (P V : List Int), ars = [.lst (P.map .int), .dat (tupI V)] ∧ P.length ≤ 100 ∧ V.length ≤ 100 ∧ (∀ x ∈ P, 0 ≤ x ∧ x < 1000) ∧ (∀ x ∈ V, 0 ≤ x ∧ x < 2) ∧ d = .str (textW (wordsW P V))
theorem num_logI {n : Int} (h0 : 0 ≤ n) (h : n < 1000) : n.natAbs.log2 < 1920 := by
  have := Nat.log2_le_self n.natAbs
  omega
theorem ok_shown {M : Md} {f : Addr} {fd : FuncData} {k : Nat} (Fu : Fun M.K "shown" "shown" sShown f fd) (m2 : M.mg "str" = none) : FnOk M.P M.w M.K M.mg M.base (L2.CX M.P M.w) (k + 1) f fd ["places", "value"] (spP M.K R_shown) := by
  refine pure_def 4 Fu scShown (fun ars d h => ?_) rfl fun X F σ ars d Γ C Bk h hΓ E => ?_
  · obtain ⟨_, _, rfl, _⟩ := h; rfl
  obtain ⟨P, V, rfl, h1, h2, h3, h4, rfl⟩ := h
  simp only [List.map_cons, List.map_nil, Ar.kd, List.cons_append, List.nil_append, List.replicate] at hΓ
  subst hΓ
  have hb : (bitsS V).length ≤ 1000 := by rw [bitsS_len h4]; omega
  refine' ws_ownLc (i := 3) (ds := (P.map numS).map .str) (by assumption) (by assumption) (by assumption) ?t1 ?td ?t2 ?t6 ?t3 ?t7 ?t8 ?t9 ?t4 ?t5
  case t1 => walk_at "sel"
  case td => first | rfl | assumption
  case t2 => walk_at "vis"
  case t6 => rfl
  case t7 => rfl
  case t8 => walk_at "vis"
  case t9 => intro _; rfl
  case t3 =>
    rw [List.map_map]
    refine' cp_list0 (i := 2) (f := PyData.int) (fE := PyData.str ∘ numS) (xs := P) (by assumption) ?vx ?vd ?vs ?vok ?vl ?vf ?vE
    case vx => walk_at "sel"
    case vd => rfl
    case vs => walk_at "lp"
    case vok => walk_at "vis"
    case vl => walk_at "vis"
    case vf => walk_at "vis"
    case vE =>
      intro y hy
      have hb := h3 y hy
      walk_at "lc"
      exact ep_strI (by assumption) m2 (by walk_at "ep") (num_logI hb.1 hb.2)
  case t4 => walk_at "nrm"
  case' t5 =>
  intro v3 σ G H Fs E
  refine' ws_set (i := 5) (d := .str (bitsS V)) C Bk E ?s1 ?sd ?s2 ?s3 ?s4 (fun σ G H E => ?_) rfl
  case s1 => walk_at "sel"
  case sd => first | rfl | assumption
  case s2 => walk_at "vis"
  case s4 => walk_at "nrm"
  case s3 =>
    refine ep_join (s := ("" : Str)) (ys := V.map numS) ep_str (NP.lp (NP.eq (ds := (V.filter fun _ => true).map (PyData.str ∘ numS)) (np_lc C ?c1 (by intro _; rfl)) (by rw [filter_tt, List.map_map]))) ?z rfl rfl rfl
    case z =>
      have := sum_le_str (ys := V.map numS) (b := 3) fun y hy => by
        obtain ⟨x, hx, rfl⟩ := List.mem_map.mp hy
        have := h4 x hx
        exact numS_len this.1 (by omega)
      rw [List.length_map] at this ⊢
      show _ + V.length * 0 ≤ _
      omega
    case c1 =>
      refine' cp_tup (i := 4) (f := PyData.int) (fE := PyData.str ∘ numS) (pT := fun _ => true) (xs := V) (by assumption) ?ux ?ud ?us ?uok ?ul ?uf ?uT ?uE
      case ux => walk_at "sel"
      case ud => rfl
      case us => walk_at "ep"
      case uok => walk_at "vis"
      case ul => walk_at "vis"
      case uf => walk_at "vis"
      case uT => intro y hy s H0 C0 cl fp _; exact tsp_nil
      case uE =>
        intro y hy _
        have hb := h4 y hy
        walk_at "lc"
        exact ep_strI (by assumption) m2 (by walk_at "ep") (num_logI hb.1 (by omega))
  refine ws_retP E (ep_join (s := (" " : Str)) (ys := wordsW P V) ep_str ?l ?z rfl rfl rfl) rfl
  case l =>
    refine LP.eq (NP.lp (np_cat (da := (P.map numS).map .str) (db := [.str "=", .str (bitsS V)]) ?l1 ?l2 ?l3)) ?l4
    case l1 => walk_at "lp"
    case l2 => exact NP.lp (np_lst (by walk_at "ap") (by simp [cap]))
    case l3 => simp only [List.length_map, List.length_cons, List.length_nil]; unfold cap; omega
    case l4 => unfold wordsW; rw [List.map_append]; rfl
  case z =>
    have := sum_le_str (ys := wordsW P V) (b := 1000) fun y hy => by
      unfold wordsW at hy
      rcases List.mem_append.mp hy with hy | hy
      · obtain ⟨x, hx, rfl⟩ := List.mem_map.mp hy
        have := h3 x hx
        have := numS_len this.1 this.2
        omega
      · rcases List.mem_cons.mp hy with rfl | hy
        · decide
        · rw [List.mem_singleton] at hy; subst hy; exact hb
    have hl : (wordsW P V).length = P.length + 2 := by unfold wordsW; rw [List.length_append, List.length_map]; rfl
    rw [hl] at this ⊢
    show _ + (P.length + 2) * 1 ≤ _
    omega
def lastW (ws : List Str) : Str := ws.getD (ws.length - 1) ""
def eqW (ws : List Str) : Str := ws.getD (ws.length - 2) ""
def readF (many wide : Int) (ws : List Str) : Option (List Int × List Int) := if 2 ≤ ws.length ∧ eqW ws = "=" then (match placesF many (ws.take (ws.length - 2)) with | some P => (match bitsF wide (lastW ws) with | some V => some (P, V) | none => none) | none => none) else none
structure TxtOk (t : Str) (many : Int) : Prop where
  m0 : 0 ≤ many
  m1 : many ≤ 1000
  tl : t.length ≤ 1000
  wl : (Txt.split t " ").length ≤ 1000
  ll : ∀ w ∈ Txt.split t " ", w.length ≤ 1000
def R_read : List Ar → PyData → Prop := fun ars d => ∃ (t : Str) (many wide : Int) (P V : List Int), ars = [.dat (.str t), .dat (.int many), .dat (.int wide)] ∧ TxtOk t many ∧ readF many wide (Txt.split t " ") = some (P, V) ∧ d = .tuple [lstI P, tupI V]
def RX_read (CB : Addr) : List Ar → Addr → Prop := fun ars C => ∃ (t : Str) (many wide : Int), ars = [.dat (.str t), .dat (.int many), .dat (.int wide)] ∧ TxtOk t many ∧ readF many wide (Txt.split t " ") = none ∧ C = CB
theorem atI_m1 {ws : List Str} (h : 1 ≤ ws.length) : atI (ws.map PyData.str) (-1) = some (.str (lastW ws)) := by
  refine atI_neg (by decide) (by rw [List.length_map]; omega) ?_
  have e : ((-1 : Int) + ((ws.map PyData.str).length : Int)).toNat = ws.length - 1 := by rw [List.length_map]; omega
  rw [e, List.getElem?_map, List.getElem?_eq_getElem (by omega)]
  unfold lastW
  rw [List.getD_eq_getElem?_getD, List.getElem?_eq_getElem (by omega)]; rfl
theorem atI_m2 {ws : List Str} (h : 2 ≤ ws.length) : atI (ws.map PyData.str) (-2) = some (.str (eqW ws)) := by
  refine atI_neg (by decide) (by rw [List.length_map]; omega) ?_
  have e : ((-2 : Int) + ((ws.map PyData.str).length : Int)).toNat = ws.length - 2 := by rw [List.length_map]; omega
  rw [e, List.getElem?_map, List.getElem?_eq_getElem (by omega)]
  unfold eqW
  rw [List.getD_eq_getElem?_getD, List.getElem?_eq_getElem (by omega)]; rfl
theorem cut_m2 {ws : List Str} : cutG (ws.map PyData.str) none (some (-2)) = (ws.take (ws.length - 2)).map PyData.str := by
  unfold cutG
  rw [List.map_take, HT.sIx_none, List.drop_zero, List.length_map, Nat.sub_zero]
  congr 1
  unfold HT.sIx
  simp only []
  split <;> omega
theorem ok_read {M : Md} {f : Addr} {fd : FuncData} {k : Nat} {CB : Addr} (Fu : Fun M.K "read" "read" sRead f fd) (LB : ClsX M "BadText" CB) (hP : FnX M 2 "places_of" R_placesof (RX_placesof CB)) (hB : FnX M 1 "bits_of" R_bitsof (RX_bitsof CB)) (hk : 2 ≤ k) (m1 : M.mg "len" = none) : FnOk M.P M.w M.K M.mg M.base (L2.CX M.P M.w) (k + 1) f fd ["text", "many", "wide"] (spX M.K R_read (RX_read CB)) := by
  refine raise_def 1 Fu scRead (fun ars d h => ?_) (fun ars C h => ?_) rfl (fun X F σ ars d Γ C Bk h hΓ E => ?_) (fun X F σ ars CC Γ C Bk tk h hΓ E => ?_)
  · obtain ⟨_, _, _, _, _, rfl, _⟩ := h; rfl
  · obtain ⟨_, _, _, rfl, _⟩ := h; rfl
  · obtain ⟨t, many, wide, P, V, rfl, hT, hr, rfl⟩ := h
    simp only [List.map_cons, List.map_nil, Ar.kd, List.cons_append, List.nil_append, List.replicate] at hΓ
    subst hΓ
    have hk1 : 1 ≤ k := by omega
    refine' ws_own (i := 3) (ds := (Txt.split t " ").map .str) C Bk E ?a1 ?a2 ?a3 ?a4 ?a5 (fun v3 σ G H Fs E => ?_) rfl
    case a1 => walk_at "sel"
    case a2 => rfl
    case a3 => walk_at "vis"
    case a4 => exact np_split (by walk_at "ep") ep_str (by decide) hT.tl (by have := hT.wl; unfold cap; omega) rfl rfl rfl
    case a5 => walk_at "nrm"
    have hwl := hT.wl
    have hll := hT.ll
    generalize Txt.split t " " = ws at *
    unfold readF at hr
    split at hr
    case isFalse => cases hr
    rename_i hc
    obtain ⟨h2, he⟩ := hc
    split at hr
    case h_2 => cases hr
    rename_i P' hp
    split at hr
    case h_2 => cases hr
    rename_i V' hv
    cases hr
    have hlm : ((ws.map PyData.str).length : Int) = ws.length := by rw [List.length_map]
    refine' ws_if (t := false) (by assumption) ?s1 (fun h => nomatch h) ?s3
    case s1 =>
      refine TP_.eq (WT.tp (wt_or (t := false) (u := false) (TP_.eq (by walk_at "tp") (by rw [hlm]; exact decide_eq_false (by omega))) fun _ => wt_or1 (TP_.eq (tp_cmp (da := .str (eqW ws)) (db := .str "=") (ep_ixL (by walk_at "lp") (by walk_at "ep") (atI_m2 h2) (fun _ _ => rfl)) ep_str do_neS (by first | rfl | exact nomark _)) (by rw [he]; rfl)))) rfl
    case s3 =>
    intro _ G H E
    refine ws_nil ?_
    refine ws_retP E (ep_tup (ds := [lstI P, tupI V]) (ap_cons (ep_call C hP.fn hk (by decide +kernel) (arp_lst (ds := (ws.take (ws.length - 2)).map .str) (LP.eq (NP.lp (np_slL (by walk_at "lp") op_none (op_some (by walk_at "ep")))) cut_m2) (arp_dat (by walk_at "ep") arp_nil rfl) rfl) ⟨_, many, P, rfl, hT.m0, hT.m1, by rw [List.length_take]; omega, hp, rfl⟩ rfl rfl (by decide +kernel)) (ap_cons (ep_call C hB.fn hk1 (by decide +kernel) (arp_dat (ep_ixL (by walk_at "lp") (by walk_at "ep") (atI_m1 (by omega)) (fun _ _ => rfl)) (arp_dat (by walk_at "ep") arp_nil rfl) rfl) ⟨lastW ws, wide, V, rfl, hll _ (by unfold lastW; rw [List.getD_eq_getElem?_getD, List.getElem?_eq_getElem (by omega)]; exact List.getElem_mem _), hv, rfl⟩ rfl rfl (by decide +kernel)) ap_nil)) (by simp [cap])) rfl
  · obtain ⟨t, many, wide, rfl, hT, hr, rfl⟩ := h
    simp only [List.map_cons, List.map_nil, Ar.kd, List.cons_append, List.nil_append, List.replicate] at hΓ
    subst hΓ
    have hk1 : 1 ≤ k := by omega
    refine' ws_own (i := 3) (ds := (Txt.split t " ").map .str) C Bk E ?x1 ?x2 ?x3 ?x4 ?x5 (fun v3 σ G H Fs E => ?_) rfl
    case x1 => walk_at "sel"
    case x2 => rfl
    case x3 => walk_at "vis"
    case x4 => exact np_split (by walk_at "ep") ep_str (by decide) hT.tl (by have := hT.wl; unfold cap; omega) rfl rfl rfl
    case x5 => walk_at "nrm"
    have hwl := hT.wl
    have hll := hT.ll
    generalize Txt.split t " " = ws at *
    have hlm : ((ws.map PyData.str).length : Int) = ws.length := by rw [List.length_map]
    by_cases h2 : 2 ≤ ws.length
    · by_cases he : eqW ws = "="
      · refine' ws_if (t := false) (by assumption) ?y1 (fun h => nomatch h) ?y3
        case y1 =>
          refine TP_.eq (WT.tp (wt_or (t := false) (u := false) (TP_.eq (by walk_at "tp") (by rw [hlm]; exact decide_eq_false (by omega))) fun _ => wt_or1 (TP_.eq (tp_cmp (da := .str (eqW ws)) (db := .str "=") (ep_ixL (by walk_at "lp") (by walk_at "ep") (atI_m2 h2) (fun _ _ => rfl)) ep_str do_neS (by first | rfl | exact nomark _)) (by rw [he]; rfl)))) rfl
        case y3 =>
        intro _ G H E
        refine ws_nil ?_
        have hlast : (lastW ws).length ≤ 1000 := hll _ (by unfold lastW; rw [List.getD_eq_getElem?_getD, List.getElem?_eq_getElem (by omega)]; exact List.getElem_mem _)
        refine ws_cons ⟨_, ps_ret (pe_tup (pa_cons pe_w (pa_cons pe_w pa_nil (star_plain rfl _ _)) (star_plain rfl _ _))), ?_⟩
        cases hp : placesF many (ws.take (ws.length - 2)) with
        | none =>
          exact w_callX C hP hk (by decide +kernel) tk (arp_lst (ds := (ws.take (ws.length - 2)).map .str) (LP.eq (NP.lp (np_slL (by walk_at "lp") op_none (op_some (by walk_at "ep")))) cut_m2) (arp_dat (by walk_at "ep") arp_nil rfl) rfl) ⟨_, many, rfl, hT.m0, hT.m1, by rw [List.length_take]; omega, hp, rfl⟩ E (fun G H E => ⟨rfl, rfl, _, Env.done E⟩) rfl rfl (by decide +kernel)
        | some P =>
          refine ep_call C hP.fn hk (by decide +kernel) (arp_lst (ds := (ws.take (ws.length - 2)).map .str) (LP.eq (NP.lp (np_slL (by walk_at "lp") op_none (op_some (by walk_at "ep")))) cut_m2) (arp_dat (by walk_at "ep") arp_nil rfl) rfl) ⟨_, many, P, rfl, hT.m0, hT.m1, by rw [List.length_take]; omega, hp, rfl⟩ rfl rfl (by decide +kernel) σ G H _ E _ fun v G1 H1 w1 r1 => ?_
          have hv : bitsF wide (lastW ws) = none := by
            cases z : bitsF wide (lastW ws) with
            | none => rfl
            | some V => unfold readF at hr; rw [if_pos ⟨h2, he⟩, hp, z] at hr; cases hr
          exact w_callX C hB hk1 (by decide +kernel) tk (arp_dat (ep_ixL (by walk_at "lp") (by walk_at "ep") (atI_m1 (by omega)) (fun _ _ => rfl)) (arp_dat (by walk_at "ep") arp_nil rfl) rfl) ⟨lastW ws, wide, rfl, hlast, hv, rfl⟩ (E.grow w1) (fun G H E => ⟨rfl, rfl, _, Env.done E⟩) rfl rfl (by decide +kernel)
      · refine' ws_if (t := true) (by assumption) ?z1 ?z2 (fun h => nomatch h)
        case z2 =>
          intro _ G H E
          exact ws_raise C tk LB (by decide +kernel) (by decide +kernel) ⟨rfl, rfl, _, Env.done (by assumption)⟩
        case z1 =>
          refine TP_.eq (WT.tp (wt_or (t := false) (u := true) (TP_.eq (by walk_at "tp") (by rw [hlm]; exact decide_eq_false (by omega))) fun _ => wt_or1 (TP_.eq (tp_cmp (da := .str (eqW ws)) (db := .str "=") (ep_ixL (by walk_at "lp") (by walk_at "ep") (atI_m2 h2) (fun _ _ => rfl)) ep_str do_neS (by first | rfl | exact nomark _)) (by rw [decide_eq_false he]; rfl)))) rfl
    · refine' ws_if (t := true) (by assumption) ?w1 ?w2 (fun h => nomatch h)
      case w2 =>
        intro _ G H E
        exact ws_raise C tk LB (by decide +kernel) (by decide +kernel) ⟨rfl, rfl, _, Env.done (by assumption)⟩
      case w1 =>
        refine TP_.eq (WT.tp (wt_or (t := true) (u := true) (TP_.eq (by walk_at "tp") (by rw [hlm]; exact decide_eq_true (by omega))) fun h => nomatch h)) rfl
/-- what isinstance says of an error of the class at CB -/
structure Kin (M : Md) (CB : Addr) (x : Str) (t : Bool) : Prop where
  ex : ∃ C : Addr, M.mg x = some (.ref C) ∧ PySem.W.kitOne M.K (.ref CB) (.ref C) = some t
def R_refused04 : List Ar → PyData → Prop := fun ars d => ∃ (t : Str) (many wide : Int), ars = [.dat (.str t), .dat (.int many), .dat (.int wide)] ∧ TxtOk t many ∧ readF many wide (Txt.split t " ") = none ∧ d = .bool true
theorem ok_refused04 {M : Md} {f : Addr} {fd : FuncData} {k : Nat} {CB CR : Addr} (Fu : Fun M.K "_law_refused" "_law_refused" sLRefused f fd) (hV : FnX M 3 "read" R_read (RX_read CB)) (hk : 3 ≤ k) (EC : ExcC M.K CB) (gR : M.mg "RainError" = some (.ref CR)) (hR : PySem.W.exmOne M.K (.ref CB) (.ref CR) = some true)
    (k1 : Kin M CB "BadPlaces" false) (k2 : Kin M CB "BadValue" false) (k3 : Kin M CB "Full" false) (k4 : Kin M CB "IsOut" false) (k5 : Kin M CB "NoParcel" false) (k6 : Kin M CB "NoYard" false) (k7 : Kin M CB "NotOut" false) (k8 : Kin M CB "BadText" true) (kv : PySem.W.kitOne M.K (.ref CB) (.type "ValueError") = some true)
    (m1 : M.mg "isinstance" = none) (m2 : M.mg "ValueError" = none) : FnOk M.P M.w M.K M.mg M.base (L2.CX M.P M.w) (k + 1) f fd ["_law_text", "_law_many", "_law_wide"] (spP M.K R_refused04) := by
  refine pure_def 2 Fu scLRefused (fun ars d h => ?_) rfl fun X F σ ars d Γ C Bk h hΓ E => ?_
  · obtain ⟨_, _, _, rfl, _⟩ := h; rfl
  obtain ⟨t, many, wide, rfl, hT, h0, rfl⟩ := h
  simp only [List.map_cons, List.map_nil, Ar.kd, List.cons_append, List.nil_append, List.replicate] at hΓ
  subst hΓ
  refine ws_try (i := 3) (c := .ref CR) (Wout := fun _ _ _ _ => False) C Bk rfl (by decide +kernel) ⟨gl_of C (by decide +kernel), by decide +kernel, .inl (by rw [C.hM]; exact gR)⟩ takes0 fun pn xe W tk hp hW => ?_
  refine ws_cons ⟨_, ps_expr pe_w (sw_no rfl _ _ _), ?_⟩
  refine w_callX (ars := [.dat (.str t), .dat (.int many), .dat (.int wide)]) C.tr hV hk (by decide +kernel) tk ?gA ⟨t, many, wide, rfl, hT, h0, rfl⟩ E (fun G H E => hW _ _ _ _ ⟨true, by rw [C.hK]; exact hR, fun _ a oe pn na hz hf => ?gS, fun z => nomatch z⟩) rfl rfl (by decide +kernel)
  case gA =>
    have C' := C.tr (pn := pn) (xe := xe)
    refine arp_dat (by walk_at "ep") (arp_dat (by walk_at "ep") (arp_dat (by walk_at "ep") arp_nil rfl) rfl) rfl
  case gS =>
    have S := Sok.of C Bk (a := a) (pn := (a, oe) :: pn)
    have E1 := env_raw (v := .ref a) E (i := 3) rfl rfl
    simp only [List.set_cons_succ, List.set_cons_zero] at E1
    obtain ⟨c1, g1, q1⟩ := k1.ex
    obtain ⟨c2, g2, q2⟩ := k2.ex
    obtain ⟨c3, g3, q3⟩ := k3.ex
    obtain ⟨c4, g4, q4⟩ := k4.ex
    obtain ⟨c5, g5, q5⟩ := k5.ex
    obtain ⟨c6, g6, q6⟩ := k6.ex
    obtain ⟨c7, g7, q7⟩ := k7.ex
    obtain ⟨c8, g8, q8⟩ := k8.ex
    rw [← C.hM] at g1 g2 g3 g4 g5 g6 g7 g8 m1 m2
    rw [← C.hK] at q1 q2 q3 q4 q5 q6 q7 q8 kv EC
    refine' ws_setS S E1 ?s1 ?sd ?s2 ?s3 ?s4 ?s5 rfl
    case s1 => walk_at "sel"
    case sd => rfl
    case s2 => walk_at "vis"
    case s3 =>
      refine NP.ep (np_lst (ap_cons (ep_isE S EC hz hf m1 g1 q1 (.there (.there (.there .here))) (by decide +kernel) (by decide +kernel) (by decide +kernel) (by decide +kernel) (by decide +kernel) (by decide +kernel)) (ap_cons (ep_isE S EC hz hf m1 g2 q2 (.there (.there (.there .here))) (by decide +kernel) (by decide +kernel) (by decide +kernel) (by decide +kernel) (by decide +kernel) (by decide +kernel)) (ap_cons (ep_isE S EC hz hf m1 g3 q3 (.there (.there (.there .here))) (by decide +kernel) (by decide +kernel) (by decide +kernel) (by decide +kernel) (by decide +kernel) (by decide +kernel)) (ap_cons (ep_isE S EC hz hf m1 g4 q4 (.there (.there (.there .here))) (by decide +kernel) (by decide +kernel) (by decide +kernel) (by decide +kernel) (by decide +kernel) (by decide +kernel)) ap_nil)))) (by decide))
    case s4 => walk_at "nrm"
    intro σ2 G2 H2 E2
    refine' ws_setS S E2 ?t1 ?td ?t2 ?t3 ?t4 ?t5 rfl
    case t1 => walk_at "sel"
    case td => rfl
    case t2 => walk_at "vis"
    case t3 =>
      refine ep_bin (ep_nameS S (.there (.there (.there (.there .here)))) (by decide +kernel) (by decide +kernel) (by decide +kernel)) (NP.ep (np_lst (ap_cons (ep_isE S EC hz hf m1 g5 q5 (.there (.there (.there .here))) (by decide +kernel) (by decide +kernel) (by decide +kernel) (by decide +kernel) (by decide +kernel) (by decide +kernel)) (ap_cons (ep_isE S EC hz hf m1 g6 q6 (.there (.there (.there .here))) (by decide +kernel) (by decide +kernel) (by decide +kernel) (by decide +kernel) (by decide +kernel) (by decide +kernel)) (ap_cons (ep_isE S EC hz hf m1 g7 q7 (.there (.there (.there .here))) (by decide +kernel) (by decide +kernel) (by decide +kernel) (by decide +kernel) (by decide +kernel) (by decide +kernel)) ap_nil))) (by decide))) (do_cat (by decide))
    case t4 => walk_at "nrm"
    intro σ3 G3 H3 E3
    refine ws_ret E3 (ep_and (ep_isE S EC hz hf m1 g8 q8 (.there (.there (.there .here))) (by decide +kernel) (by decide +kernel) (by decide +kernel) (by decide +kernel) (by decide +kernel) (by decide +kernel)) fun _ => ep_and (ep_isEB S EC hz hf m1 m2 (T := "ValueError") (by decide +kernel) kv (.there (.there (.there .here))) (by decide +kernel) (by decide +kernel) (by decide +kernel) (by decide +kernel) (by decide +kernel) (by decide +kernel) (by decide +kernel)) fun _ => ep_one (ep_notInB (bs := [false, false, false, false, false, false, false]) ep_bool (EP.lp (ep_nameS S (.there (.there (.there (.there .here)))) (by decide +kernel) (by decide +kernel) (by decide +kernel))) rfl)) fun v G' H' E' r => ⟨G', E'.done, ?dd⟩
    case dd => exact r
def R_kinds : List Ar → PyData → Prop := fun ars d => ∃ (P V : List Int), ars = [.dat (.tuple [lstI P, tupI V])] ∧ P.length ≤ 1000 ∧ V.length ≤ 1000 ∧ d = .bool true
theorem ok_kinds {M : Md} {f : Addr} {fd : FuncData} {k : Nat} (Fu : Fun M.K "_law_kinds_good" "_law_kinds_good" sKinds f fd) (hW : FnA M 1 "_law_whole" R_whole) (hk : 1 ≤ k) (m1 : M.mg "isinstance" = none) (m2 : M.mg "tuple" = none) (m3 : M.mg "list" = none) (m4 : M.mg "len" = none) : FnOk M.P M.w M.K M.mg M.base (L2.CX M.P M.w) (k + 1) f fd ["_law_found"] (spP M.K R_kinds) := by
  refine pure_def 1 Fu scKinds (fun ars d h => ?_) rfl fun X F σ ars d Γ C Bk h hΓ E => ?_
  · obtain ⟨_, _, rfl, _⟩ := h; rfl
  obtain ⟨P, V, rfl, h1, h2, rfl⟩ := h
  simp only [List.map_cons, List.map_nil, Ar.kd, List.cons_append, List.nil_append, List.replicate] at hΓ
  subst hΓ
  refine' ws_if (t := false) (by assumption) ?s1 (fun h => nomatch h) ?s3
  case s1 => exact TP_.eq (by walk_at "tp") (by rfl)
  case s3 =>
  intro _ G H E
  refine ws_nil ?_
  refine' ws_if (t := false) (by assumption) ?t1 (fun h => nomatch h) ?t3
  case t1 => exact TP_.eq (by walk_at "tp") (by rfl)
  case t3 =>
  intro _ G H E
  refine ws_nil ?_
  refine ws_retP E (EP.eq (ep_cmp (da := .list []) (db := .list []) (NP.ep (NP.eq (ds := ((P ++ V).filter fun _ => false).map PyData.int) (np_lc C ?x1 (by intro _; rfl)) ?x4)) ?x2 (do_eqN (n := 8) (m := 8) C (nd_lst nd_nil) (nd_lst nd_nil) (by decide) (by decide)) (by first | rfl | exact nomark _)) ?x3) rfl
  case x2 => walk_at "ep"
  case x3 => exact congrArg PyData.bool eqD_rfl
  case x4 => simp
  case x1 =>
    refine' cp_list (α := Int) (f := PyData.int) (fE := PyData.int) (pT := fun _ => false) (xs := P ++ V) (by assumption) ?rx ?rd ?rs ?rok ?rl ?rf ?rT ?rE
    case rx => walk_at "sel"
    case rd => rfl
    case rs => exact NP.lp (np_catM (f := PyData.int) (EP.lp (ep_ixT (ds := [lstI P, tupI V]) (by walk_at "ep") ep_int rfl (fun _ _ => rfl))) (NP.lp (np_listT C m3 (ep_ixT (ds := [lstI P, tupI V]) (by walk_at "ep") ep_int rfl (fun _ _ => rfl)))) (by unfold cap; omega))
    case rok => walk_at "vis"
    case rl => walk_at "vis"
    case rf => walk_at "vis"
    case rE => intro y hy h; cases h
    case rT =>
      intro y hy
      walk_at "lc"
      exact tsp_one (TP_.eq (by walk_at "tp") (by rfl))
theorem cut_to1 {P V : List Int} : cutG ((wordsW P V).map PyData.str) none (some (-1)) = (P.map numS ++ [("=" : Str)]).map PyData.str := by
  unfold cutG wordsW
  rw [HT.sIx_none, List.drop_zero, Nat.sub_zero, ← List.map_take]
  congr 1
  rw [show HT.sIx ((P.map numS ++ [("=" : Str), bitsS V]).map PyData.str).length ((P.map numS ++ [("=" : Str), bitsS V]).map PyData.str).length (some (-1)) = (P.map numS ++ [("=" : Str)]).length from by
    unfold HT.sIx; simp only [List.length_map, List.length_append, List.length_cons, List.length_nil]; split <;> omega]
  rw [show P.map numS ++ [("=" : Str), bitsS V] = (P.map numS ++ [("=" : Str)]) ++ [bitsS V] from by simp, List.take_left]
theorem cut_to2 {P V : List Int} : cutG ((wordsW P V).map PyData.str) none (some (-2)) = (P.map numS).map PyData.str := by
  rw [cut_m2]
  congr 1
  unfold wordsW
  rw [show (P.map numS ++ [("=" : Str), bitsS V]).length - 2 = (P.map numS).length from by simp, List.take_left]
theorem cut_fr {P V : List Int} {n : Nat} {j : Int} (h : HT.sIx (wordsW P V).length 0 (some j) = n) : cutG ((wordsW P V).map PyData.str) (some j) none = ((wordsW P V).drop n).map PyData.str := by
  unfold cutG
  rw [HT.sIx_none, List.length_map, h, ← List.map_drop, List.take_of_length_le (by simp)]
theorem cut_fr2 {P V : List Int} : cutG ((wordsW P V).map PyData.str) (some (-2)) none = ([("=" : Str), bitsS V]).map PyData.str := by
  rw [cut_fr (n := (P.map numS).length) (by unfold HT.sIx wordsW; simp only [List.length_map, List.length_append, List.length_cons, List.length_nil]; split <;> omega)]
  unfold wordsW
  rw [List.drop_left]
theorem cut_fr1 {P V : List Int} : cutG ((wordsW P V).map PyData.str) (some (-1)) none = ([bitsS V]).map PyData.str := by
  rw [cut_fr (n := (P.map numS ++ [("=" : Str)]).length) (by unfold HT.sIx wordsW; simp only [List.length_map, List.length_append, List.length_cons, List.length_nil]; split <;> omega)]
  unfold wordsW
  rw [show P.map numS ++ [("=" : Str), bitsS V] = (P.map numS ++ [("=" : Str)]) ++ [bitsS V] from by simp, List.drop_left]
theorem lastW_w {P V : List Int} : lastW (wordsW P V) = bitsS V := by
  unfold lastW wordsW
  rw [show (P.map numS ++ [("=" : Str), bitsS V]) = (P.map numS ++ [("=" : Str)]) ++ [bitsS V] from by simp, List.getD_eq_getElem?_getD, List.getElem?_append_right (by simp)]
  simp
def tailS (z : Str) : Str := cutS z (some 1) none
def spoiltF (P V : List Int) (at_ many : Int) : List (List Str) :=
  [(wordsW P V).take at_.toNat ++ [("" : Str)] ++ (wordsW P V).drop at_.toNat, wordsW P V ++ [("" : Str)], [("" : Str)] ++ wordsW P V, wordsW P V ++ [("1" : Str)], P.map numS ++ [("=" : Str)], P.map numS ++ [bitsS V],
   P.map numS ++ [("=" : Str)] ++ [bitsS V ++ ("0" : Str)], P.map numS ++ [("=" : Str)] ++ [tailS (bitsS V)], P.map numS ++ [("=" : Str)] ++ [("2" : Str) ++ tailS (bitsS V)], P.map numS ++ [("=" : Str)] ++ [("+" : Str) ++ tailS (bitsS V)],
   P.map numS ++ [("==" : Str)] ++ [bitsS V], [numS many] ++ wordsW P V, [numS (many - 1), numS (many - 1)] ++ [("=" : Str), bitsS V], [numS many, ("=" : Str)] ++ [bitsS V], [("01" : Str)] ++ [("=" : Str), bitsS V], [("00" : Str)] ++ [("=" : Str), bitsS V], [("-0" : Str)] ++ [("=" : Str), bitsS V], [("+0" : Str)] ++ [("=" : Str), bitsS V], [("a" : Str)] ++ [("=" : Str), bitsS V],
   [("0 " : Str)] ++ [("=" : Str), bitsS V], [("0" : Str), "="] ++ [("=" : Str), bitsS V], [("1" : Str), "0"] ++ [("=" : Str), bitsS V], [], [("=" : Str)]]
def R_spoilt : List Ar → PyData → Prop := fun ars d => ∃ (P V : List Int) (way at_ many : Int), ars = [.lst ((wordsW P V).map .str), .dat (.int way), .dat (.int at_), .dat (.int many)] ∧ P.length ≤ 100 ∧ V.length ≤ 100 ∧ (∀ x ∈ V, 0 ≤ x ∧ x < 2) ∧ 0 ≤ way ∧ way < 24 ∧ 0 ≤ at_ ∧ at_ ≤ 1000 ∧ 1 ≤ many ∧ many ≤ 900 ∧ d = .list (((spoiltF P V at_ many).getD way.toNat []).map .str)
def lstS (r : List Str) : PyData := .list (r.map .str)
theorem cut_at {ws : List Str} {a : Int} (h : 0 ≤ a) : cutG (ws.map PyData.str) none (some a) = (ws.take a.toNat).map PyData.str := by
  unfold cutG
  rw [HT.sIx_none, List.drop_zero, Nat.sub_zero, ← List.map_take, List.length_map]
  congr 1
  rw [show HT.sIx ws.length ws.length (some a) = min a.toNat ws.length from by unfold HT.sIx; simp only []; rw [if_neg (by omega)]]
  by_cases z : a.toNat ≤ ws.length
  · rw [Nat.min_eq_left z]
  · rw [Nat.min_eq_right (by omega), List.take_length, List.take_of_length_le (by omega)]
theorem cut_from {ws : List Str} {a : Int} (h : 0 ≤ a) : cutG (ws.map PyData.str) (some a) none = (ws.drop a.toNat).map PyData.str := by
  unfold cutG
  rw [HT.sIx_none, List.length_map, show HT.sIx ws.length 0 (some a) = min a.toNat ws.length from by unfold HT.sIx; simp only []; rw [if_neg (by omega)], ← List.map_drop, List.take_of_length_le (by simp)]
  congr 1
  by_cases z : a.toNat ≤ ws.length
  · rw [Nat.min_eq_left z]
  · rw [Nat.min_eq_right (by omega), List.drop_length, List.drop_of_length_le (by omega)]
theorem ok_spoilt {M : Md} {f : Addr} {fd : FuncData} {k : Nat} (Fu : Fun M.K "_law_spoilt" "_law_spoilt" sSpoilt f fd) (m2 : M.mg "str" = none) : FnOk M.P M.w M.K M.mg M.base (L2.CX M.P M.w) (k + 1) f fd ["_law_words", "_law_way", "_law_at", "_law_many"] (spP M.K R_spoilt) := by
  refine pure_def 3 Fu scSpoilt (fun ars d h => ?_) rfl fun X F σ ars d Γ C Bk h hΓ E => ?_
  · obtain ⟨_, _, _, _, _, rfl, _⟩ := h; rfl
  obtain ⟨P, V, way, at_, many, rfl, h1, h2, h3, h4, h5, h6, h7, h8, h9, rfl⟩ := h
  simp only [List.map_cons, List.map_nil, Ar.kd, List.cons_append, List.nil_append, List.replicate] at hΓ
  subst hΓ
  have hb := bitsS_len h3
  have hsp : (spoiltF P V at_ many).length = 24 := rfl
  have hct : (cutS (bitsS V) (some 1) none).length ≤ (bitsS V).length := cutS_length _ _ _
  have hl2 : (Str.ofString "2").length = 1 := rfl
  have hl0 : (Str.ofString "0").length = 1 := rfl
  have hlp : (Str.ofString "+").length = 1 := rfl
  have hlw : (wordsW P V).length = P.length + 2 := by unfold wordsW; rw [List.length_append, List.length_map]; rfl
  refine ws_par (i := 4) (j := 5) (k := .un) (k2 := .un) (d1 := .list (((wordsW P V).take at_.toNat).map .str)) (d2 := .list (((wordsW P V).drop at_.toNat).map .str)) C E (by walk_at "sel") rfl (by walk_at "vis") (by walk_at "sel") rfl (by walk_at "vis") (by decide) (NP.ep (NP.eq (np_slL (by walk_at "lp") op_none (op_some (by walk_at "ep"))) (cut_at h6))) (NP.ep (NP.eq (np_slL (by walk_at "lp") (op_some (by walk_at "ep")) op_none) (cut_from h6))) rfl (fun σ G H E => ?_) (by intro env henv; cases env; cases henv; rfl) rfl
  simp only [List.set_cons_zero, List.set_cons_succ] at E
  refine ws_set (i := 6) (d := .list (((spoiltF P V at_ many).take 6).map lstS)) C Bk E (by walk_at "sel") rfl (by walk_at "vis") (EP.eq (d' := .list (((spoiltF P V at_ many).take 6).map lstS)) (EP.eq (d' := .list ((((spoiltF P V at_ many).take 6).drop 0).map lstS)) (NP.ep (np_lst (ap_cons (NP.ep (np_catM (f := PyData.str) (NP.lp (np_catM (f := PyData.str) (by walk_at "lp") (LP.eq (ds' := ([("" : Str)] : List Str).map PyData.str) (NP.lp (np_lst (ds := [.str ("" : Str)]) (ap_cons ep_str ap_nil) (by simp [cap]))) rfl) (by simp only [List.length_append, List.length_map, List.length_cons, List.length_nil, List.length_take, List.length_drop, List.length_replicate, hlw]; unfold cap; omega))) (by walk_at "lp") (by simp only [List.length_append, List.length_map, List.length_cons, List.length_nil, List.length_take, List.length_drop, List.length_replicate, hlw]; unfold cap; omega))) (ap_cons (NP.ep (np_catM (f := PyData.str) (by walk_at "lp") (LP.eq (ds' := ([("" : Str)] : List Str).map PyData.str) (NP.lp (np_lst (ds := [.str ("" : Str)]) (ap_cons ep_str ap_nil) (by simp [cap]))) rfl) (by simp only [List.length_append, List.length_map, List.length_cons, List.length_nil, List.length_take, List.length_drop, List.length_replicate, hlw]; unfold cap; omega))) (ap_cons (NP.ep (np_catM (f := PyData.str) (LP.eq (ds' := ([("" : Str)] : List Str).map PyData.str) (NP.lp (np_lst (ds := [.str ("" : Str)]) (ap_cons ep_str ap_nil) (by simp [cap]))) rfl) (by walk_at "lp") (by simp only [List.length_append, List.length_map, List.length_cons, List.length_nil, List.length_take, List.length_drop, List.length_replicate, hlw]; unfold cap; omega))) (ap_cons (NP.ep (np_catM (f := PyData.str) (by walk_at "lp") (LP.eq (ds' := ([("1" : Str)] : List Str).map PyData.str) (NP.lp (np_lst (ds := [.str ("1" : Str)]) (ap_cons ep_str ap_nil) (by simp [cap]))) rfl) (by simp only [List.length_append, List.length_map, List.length_cons, List.length_nil, List.length_take, List.length_drop, List.length_replicate, hlw]; unfold cap; omega))) (ap_cons (NP.ep (NP.eq ((np_slL (by walk_at "lp") op_none (op_some (by walk_at "ep")))) cut_to1)) (ap_cons (NP.ep (np_catM (f := PyData.str) (LP.eq (NP.lp (np_slL (by walk_at "lp") op_none (op_some (by walk_at "ep")))) cut_to2) (LP.eq (NP.lp (np_slL (by walk_at "lp") (op_some (by walk_at "ep")) op_none)) cut_fr1) (by simp only [List.length_append, List.length_map, List.length_cons, List.length_nil, List.length_take, List.length_drop, List.length_replicate, hlw]; unfold cap; omega))) ap_nil)))))) (by simp [cap]))) rfl) rfl) rfl (fun σ G H E => ?_) rfl
  simp only [List.set_cons_zero, List.set_cons_succ] at E
  refine ws_set (i := 6) (d := .list (((spoiltF P V at_ many).take 9).map lstS)) C Bk E (by walk_at "sel") rfl (by walk_at "vis") (EP.eq (d' := .list (((spoiltF P V at_ many).take 9).map lstS)) (ep_bin (by walk_at "ep") (EP.eq (d' := .list ((((spoiltF P V at_ many).take 9).drop 6).map lstS)) (NP.ep (np_lst (ap_cons (NP.ep (np_catM (f := PyData.str) (LP.eq (NP.lp (np_slL (by walk_at "lp") op_none (op_some (by walk_at "ep")))) cut_to1) (LP.eq (ds' := ([(bitsS V ++ ("0" : Str))] : List Str).map PyData.str) (NP.lp (np_lst (ds := [.str (bitsS V ++ ("0" : Str))]) (ap_cons (ep_bin (EP.eq (ep_ixL (by walk_at "lp") (by walk_at "ep") (atI_m1 (ws := wordsW P V) (by omega)) (fun _ _ => rfl)) (congrArg PyData.str lastW_w)) ep_str (do_addS (by omega))) ap_nil) (by simp [cap]))) rfl) (by simp only [List.length_append, List.length_map, List.length_cons, List.length_nil, List.length_take, List.length_drop, List.length_replicate, hlw]; unfold cap; omega))) (ap_cons (NP.ep (np_catM (f := PyData.str) (LP.eq (NP.lp (np_slL (by walk_at "lp") op_none (op_some (by walk_at "ep")))) cut_to1) (LP.eq (ds' := ([(tailS (bitsS V))] : List Str).map PyData.str) (NP.lp (np_lst (ds := [.str (tailS (bitsS V))]) (ap_cons (ep_slS (EP.eq (ep_ixL (by walk_at "lp") (by walk_at "ep") (atI_m1 (ws := wordsW P V) (by omega)) (fun _ _ => rfl)) (congrArg PyData.str lastW_w)) (op_some (by walk_at "ep")) op_none (by omega)) ap_nil) (by simp [cap]))) rfl) (by simp only [List.length_append, List.length_map, List.length_cons, List.length_nil, List.length_take, List.length_drop, List.length_replicate, hlw]; unfold cap; omega))) (ap_cons (NP.ep (np_catM (f := PyData.str) (LP.eq (NP.lp (np_slL (by walk_at "lp") op_none (op_some (by walk_at "ep")))) cut_to1) (LP.eq (ds' := ([(("2" : Str) ++ tailS (bitsS V))] : List Str).map PyData.str) (NP.lp (np_lst (ds := [.str (("2" : Str) ++ tailS (bitsS V))]) (ap_cons (ep_bin ep_str (ep_slS (EP.eq (ep_ixL (by walk_at "lp") (by walk_at "ep") (atI_m1 (ws := wordsW P V) (by omega)) (fun _ _ => rfl)) (congrArg PyData.str lastW_w)) (op_some (by walk_at "ep")) op_none (by omega)) (do_addS (by omega))) ap_nil) (by simp [cap]))) rfl) (by simp only [List.length_append, List.length_map, List.length_cons, List.length_nil, List.length_take, List.length_drop, List.length_replicate, hlw]; unfold cap; omega))) ap_nil))) (by simp [cap]))) rfl) (do_cat (by simp only [List.length_map, List.length_take, List.length_drop, hsp]; unfold cap; omega))) rfl) rfl (fun σ G H E => ?_) rfl
  simp only [List.set_cons_zero, List.set_cons_succ] at E
  refine ws_set (i := 6) (d := .list (((spoiltF P V at_ many).take 12).map lstS)) C Bk E (by walk_at "sel") rfl (by walk_at "vis") (EP.eq (d' := .list (((spoiltF P V at_ many).take 12).map lstS)) (ep_bin (by walk_at "ep") (EP.eq (d' := .list ((((spoiltF P V at_ many).take 12).drop 9).map lstS)) (NP.ep (np_lst (ap_cons (NP.ep (np_catM (f := PyData.str) (LP.eq (NP.lp (np_slL (by walk_at "lp") op_none (op_some (by walk_at "ep")))) cut_to1) (LP.eq (ds' := ([(("+" : Str) ++ tailS (bitsS V))] : List Str).map PyData.str) (NP.lp (np_lst (ds := [.str (("+" : Str) ++ tailS (bitsS V))]) (ap_cons (ep_bin ep_str (ep_slS (EP.eq (ep_ixL (by walk_at "lp") (by walk_at "ep") (atI_m1 (ws := wordsW P V) (by omega)) (fun _ _ => rfl)) (congrArg PyData.str lastW_w)) (op_some (by walk_at "ep")) op_none (by omega)) (do_addS (by omega))) ap_nil) (by simp [cap]))) rfl) (by simp only [List.length_append, List.length_map, List.length_cons, List.length_nil, List.length_take, List.length_drop, List.length_replicate, hlw]; unfold cap; omega))) (ap_cons (NP.ep (np_catM (f := PyData.str) (NP.lp (np_catM (f := PyData.str) (LP.eq (NP.lp (np_slL (by walk_at "lp") op_none (op_some (by walk_at "ep")))) cut_to2) (LP.eq (ds' := ([("==" : Str)] : List Str).map PyData.str) (NP.lp (np_lst (ds := [.str ("==" : Str)]) (ap_cons ep_str ap_nil) (by simp [cap]))) rfl) (by simp only [List.length_append, List.length_map, List.length_cons, List.length_nil, List.length_take, List.length_drop, List.length_replicate, hlw]; unfold cap; omega))) (LP.eq (NP.lp (np_slL (by walk_at "lp") (op_some (by walk_at "ep")) op_none)) cut_fr1) (by simp only [List.length_append, List.length_map, List.length_cons, List.length_nil, List.length_take, List.length_drop, List.length_replicate, hlw]; unfold cap; omega))) (ap_cons (NP.ep (np_catM (f := PyData.str) (LP.eq (ds' := ([(numS many)] : List Str).map PyData.str) (NP.lp (np_lst (ds := [.str (numS many)]) (ap_cons (ep_strI C m2 (by walk_at "ep") (num_logI (by omega) (by omega))) ap_nil) (by simp [cap]))) rfl) (by walk_at "lp") (by simp only [List.length_append, List.length_map, List.length_cons, List.length_nil, List.length_take, List.length_drop, List.length_replicate, hlw]; unfold cap; omega))) ap_nil))) (by simp [cap]))) rfl) (do_cat (by simp only [List.length_map, List.length_take, List.length_drop, hsp]; unfold cap; omega))) rfl) rfl (fun σ G H E => ?_) rfl
  simp only [List.set_cons_zero, List.set_cons_succ] at E
  refine ws_set (i := 6) (d := .list (((spoiltF P V at_ many).take 15).map lstS)) C Bk E (by walk_at "sel") rfl (by walk_at "vis") (EP.eq (d' := .list (((spoiltF P V at_ many).take 15).map lstS)) (ep_bin (by walk_at "ep") (EP.eq (d' := .list ((((spoiltF P V at_ many).take 15).drop 12).map lstS)) (NP.ep (np_lst (ap_cons (NP.ep (np_catM (f := PyData.str) (LP.eq (ds' := ([numS (many - 1), numS (many - 1)] : List Str).map PyData.str) (NP.lp (np_rep (NP.lp (np_lst (ds := [.str (numS (many - 1))]) (ap_cons (ep_strI C m2 (by walk_at "ep") (num_logI (by omega) (by omega))) ap_nil) (by simp [cap]))) (by walk_at "ep") (by decide) (by decide))) rfl) (LP.eq (NP.lp (np_slL (by walk_at "lp") (op_some (by walk_at "ep")) op_none)) cut_fr2) (by simp only [List.length_append, List.length_map, List.length_cons, List.length_nil, List.length_take, List.length_drop, List.length_replicate, hlw]; unfold cap; omega))) (ap_cons (NP.ep (np_catM (f := PyData.str) (LP.eq (ds' := ([(numS many), ("=" : Str)] : List Str).map PyData.str) (NP.lp (np_lst (ds := [.str (numS many), .str ("=" : Str)]) (ap_cons (ep_strI C m2 (by walk_at "ep") (num_logI (by omega) (by omega))) (ap_cons ep_str ap_nil)) (by simp [cap]))) rfl) (LP.eq (NP.lp (np_slL (by walk_at "lp") (op_some (by walk_at "ep")) op_none)) cut_fr1) (by simp only [List.length_append, List.length_map, List.length_cons, List.length_nil, List.length_take, List.length_drop, List.length_replicate, hlw]; unfold cap; omega))) (ap_cons (NP.ep (np_catM (f := PyData.str) (LP.eq (ds' := ([("01" : Str)] : List Str).map PyData.str) (NP.lp (np_lst (ds := [.str ("01" : Str)]) (ap_cons ep_str ap_nil) (by simp [cap]))) rfl) (LP.eq (NP.lp (np_slL (by walk_at "lp") (op_some (by walk_at "ep")) op_none)) cut_fr2) (by simp only [List.length_append, List.length_map, List.length_cons, List.length_nil, List.length_take, List.length_drop, List.length_replicate, hlw]; unfold cap; omega))) ap_nil))) (by simp [cap]))) rfl) (do_cat (by simp only [List.length_map, List.length_take, List.length_drop, hsp]; unfold cap; omega))) rfl) rfl (fun σ G H E => ?_) rfl
  simp only [List.set_cons_zero, List.set_cons_succ] at E
  refine ws_set (i := 6) (d := .list (((spoiltF P V at_ many).take 19).map lstS)) C Bk E (by walk_at "sel") rfl (by walk_at "vis") (EP.eq (d' := .list (((spoiltF P V at_ many).take 19).map lstS)) (ep_bin (by walk_at "ep") (EP.eq (d' := .list ((((spoiltF P V at_ many).take 19).drop 15).map lstS)) (NP.ep (np_lst (ap_cons (NP.ep (np_catM (f := PyData.str) (LP.eq (ds' := ([("00" : Str)] : List Str).map PyData.str) (NP.lp (np_lst (ds := [.str ("00" : Str)]) (ap_cons ep_str ap_nil) (by simp [cap]))) rfl) (LP.eq (NP.lp (np_slL (by walk_at "lp") (op_some (by walk_at "ep")) op_none)) cut_fr2) (by simp only [List.length_append, List.length_map, List.length_cons, List.length_nil, List.length_take, List.length_drop, List.length_replicate, hlw]; unfold cap; omega))) (ap_cons (NP.ep (np_catM (f := PyData.str) (LP.eq (ds' := ([("-0" : Str)] : List Str).map PyData.str) (NP.lp (np_lst (ds := [.str ("-0" : Str)]) (ap_cons ep_str ap_nil) (by simp [cap]))) rfl) (LP.eq (NP.lp (np_slL (by walk_at "lp") (op_some (by walk_at "ep")) op_none)) cut_fr2) (by simp only [List.length_append, List.length_map, List.length_cons, List.length_nil, List.length_take, List.length_drop, List.length_replicate, hlw]; unfold cap; omega))) (ap_cons (NP.ep (np_catM (f := PyData.str) (LP.eq (ds' := ([("+0" : Str)] : List Str).map PyData.str) (NP.lp (np_lst (ds := [.str ("+0" : Str)]) (ap_cons ep_str ap_nil) (by simp [cap]))) rfl) (LP.eq (NP.lp (np_slL (by walk_at "lp") (op_some (by walk_at "ep")) op_none)) cut_fr2) (by simp only [List.length_append, List.length_map, List.length_cons, List.length_nil, List.length_take, List.length_drop, List.length_replicate, hlw]; unfold cap; omega))) (ap_cons (NP.ep (np_catM (f := PyData.str) (LP.eq (ds' := ([("a" : Str)] : List Str).map PyData.str) (NP.lp (np_lst (ds := [.str ("a" : Str)]) (ap_cons ep_str ap_nil) (by simp [cap]))) rfl) (LP.eq (NP.lp (np_slL (by walk_at "lp") (op_some (by walk_at "ep")) op_none)) cut_fr2) (by simp only [List.length_append, List.length_map, List.length_cons, List.length_nil, List.length_take, List.length_drop, List.length_replicate, hlw]; unfold cap; omega))) ap_nil)))) (by simp [cap]))) rfl) (do_cat (by simp only [List.length_map, List.length_take, List.length_drop, hsp]; unfold cap; omega))) rfl) rfl (fun σ G H E => ?_) rfl
  simp only [List.set_cons_zero, List.set_cons_succ] at E
  refine ws_set (i := 6) (d := .list (((spoiltF P V at_ many).take 24).map lstS)) C Bk E (by walk_at "sel") rfl (by walk_at "vis") (EP.eq (d' := .list (((spoiltF P V at_ many).take 24).map lstS)) (ep_bin (by walk_at "ep") (EP.eq (d' := .list ((((spoiltF P V at_ many).take 24).drop 19).map lstS)) (NP.ep (np_lst (ap_cons (NP.ep (np_catM (f := PyData.str) (LP.eq (ds' := ([("0 " : Str)] : List Str).map PyData.str) (NP.lp (np_lst (ds := [.str ("0 " : Str)]) (ap_cons ep_str ap_nil) (by simp [cap]))) rfl) (LP.eq (NP.lp (np_slL (by walk_at "lp") (op_some (by walk_at "ep")) op_none)) cut_fr2) (by simp only [List.length_append, List.length_map, List.length_cons, List.length_nil, List.length_take, List.length_drop, List.length_replicate, hlw]; unfold cap; omega))) (ap_cons (NP.ep (np_catM (f := PyData.str) (LP.eq (ds' := ([("0" : Str), ("=" : Str)] : List Str).map PyData.str) (NP.lp (np_lst (ds := [.str ("0" : Str), .str ("=" : Str)]) (ap_cons ep_str (ap_cons ep_str ap_nil)) (by simp [cap]))) rfl) (LP.eq (NP.lp (np_slL (by walk_at "lp") (op_some (by walk_at "ep")) op_none)) cut_fr2) (by simp only [List.length_append, List.length_map, List.length_cons, List.length_nil, List.length_take, List.length_drop, List.length_replicate, hlw]; unfold cap; omega))) (ap_cons (NP.ep (np_catM (f := PyData.str) (LP.eq (ds' := ([("1" : Str), ("0" : Str)] : List Str).map PyData.str) (NP.lp (np_lst (ds := [.str ("1" : Str), .str ("0" : Str)]) (ap_cons ep_str (ap_cons ep_str ap_nil)) (by simp [cap]))) rfl) (LP.eq (NP.lp (np_slL (by walk_at "lp") (op_some (by walk_at "ep")) op_none)) cut_fr2) (by simp only [List.length_append, List.length_map, List.length_cons, List.length_nil, List.length_take, List.length_drop, List.length_replicate, hlw]; unfold cap; omega))) (ap_cons (NP.ep (NP.eq ((np_lst (ds := []) ap_nil (by simp [cap]))) rfl)) (ap_cons (NP.ep (NP.eq ((np_lst (ds := [.str ("=" : Str)]) (ap_cons ep_str ap_nil) (by simp [cap]))) rfl)) ap_nil))))) (by simp [cap]))) rfl) (do_cat (by simp only [List.length_map, List.length_take, List.length_drop, hsp]; unfold cap; omega))) rfl) rfl (fun σ G H E => ?_) rfl
  simp only [List.set_cons_zero, List.set_cons_succ] at E
  refine ws_retP E (EP.eq (ep_ixG (ds := ((spoiltF P V at_ many).take 24).map lstS) (by walk_at "lp") (by walk_at "ep") h4 h5 (fun _ _ => rfl)) ?e) rfl
  case e =>
    rw [show (spoiltF P V at_ many).take 24 = spoiltF P V at_ many from rfl, List.getD_eq_getElem?_getD, List.getElem?_map, List.getD_eq_getElem?_getD, List.getElem?_eq_getElem (show way.toNat < 24 by omega)]; rfl
theorem sp_tl : TL.tl (" " : Str) = [32] := TL.tl_ofString " "
theorem split_w {ws : List Str} (hn : ws ≠ []) (h : ∀ w ∈ ws, 32 ∉ TL.tl w) : Txt.split (textW ws) " " = ws := TL.split_join (S := []) sp_tl (by decide +kernel) hn h
theorem num_nosp {n : Int} (h : 0 ≤ n) : 32 ∉ TL.tl (numS n) := by
  have e : n = ((n.toNat : Nat) : Int) := by omega
  unfold numS
  rw [e, TL.tl_num]
  exact TL.numL_free (.inl (by decide))
theorem bits_nosp {V : List Int} (h : ∀ x ∈ V, 0 ≤ x ∧ x < 2) : 32 ∉ TL.tl (bitsS V) := by
  rw [bitsS_tl h]
  intro z
  obtain ⟨x, hx, e⟩ := List.mem_map.mp z
  omega
theorem slook_num {many : Int} {j : Nat} (h : (j : Int) < many) : slook (knownL many) (numS (j : Int)) = some (j : Int) := by
  unfold knownL
  have key : ∀ n, j < n → slook ((List.range n).map fun (j : Nat) => (numS (j : Int), (j : Int))) (numS (j : Int)) = some (j : Int) := by
    intro n
    induction n with
    | zero => intro h; omega
    | succ n ih =>
      intro hj
      unfold slook
      rw [List.range_succ, List.map_append, List.find?_append]
      by_cases e : j = n
      · subst e
        have hnone : ((List.range j).map fun (j : Nat) => (numS (j : Int), (j : Int))).find? (fun p => decide (p.1 = numS (j : Int))) = none := by
          rw [List.find?_eq_none]
          intro p hp z
          obtain ⟨a, ha, rfl⟩ := List.mem_map.mp hp
          have := numS_inj (of_decide_eq_true z)
          rw [List.mem_range] at ha; omega
        rw [hnone]
        simp
      · have := ih (by omega)
        unfold slook at this
        cases z : ((List.range n).map fun (j : Nat) => (numS (j : Int), (j : Int))).find? (fun p => decide (p.1 = numS (j : Int))) with
        | none => rw [z] at this; cases this
        | some p => rw [z] at this; simpa using this
  exact key _ (by omega)
theorem slook_no {many : Int} {w : Str} (h : ∀ j : Nat, (j : Int) < many → numS (j : Int) ≠ w) : slook (knownL many) w = none := by
  unfold slook knownL
  rw [Option.map_eq_none_iff, List.find?_eq_none]
  intro p hp z
  obtain ⟨a, ha, rfl⟩ := List.mem_map.mp hp
  rw [List.mem_range] at ha
  exact h a (by omega) (of_decide_eq_true z)
theorem places_good {many : Int} {P : List Int} (h : risesF (-1) many P = true) (hb : ∀ x ∈ P, 0 ≤ x ∧ x < many) : placesF many (P.map numS) = some P := by
  have hl : ∀ x ∈ P, slook (knownL many) (numS x) = some x := fun x hx => by
    have := hb x hx
    have e : x = ((x.toNat : Nat) : Int) := by omega
    rw [e]; exact slook_num (by omega)
  have e : ((P.map numS).map fun w => (slook (knownL many) w).getD 0) = P := by
    rw [List.map_map]
    conv => rhs; rw [← List.map_id P]
    exact List.map_congr_left fun x hx => by show (slook (knownL many) (numS x)).getD 0 = x; rw [hl x hx]; rfl
  unfold placesF
  rw [if_pos (List.all_eq_true.mpr fun w hw => by obtain ⟨x, hx, rfl⟩ := List.mem_map.mp hw; rw [hl x hx]; rfl), e, if_pos h]
theorem places_bad {many : Int} {ws : List Str} {w : Str} (hw : w ∈ ws) (h : slook (knownL many) w = none) : placesF many ws = none := by
  unfold placesF
  rw [if_neg]
  intro z
  have := List.all_eq_true.mp z w hw
  rw [h] at this; cases this
theorem bits_good {wide : Int} {V : List Int} (h : ∀ x ∈ V, 0 ≤ x ∧ x < 2) (hl : (V.length : Int) = wide) : bitsF wide (bitsS V) = some V := by
  have e : (bitsS V).cps.toList = V.map fun x => 48 + x.toNat := bitsS_tl h
  unfold bitsF
  rw [if_pos ⟨by rw [bitsS_len h]; exact hl, by
    rw [e, List.all_map]
    exact List.all_eq_true.mpr fun x hx => okSign_iff.mpr (by have := h x hx; show 48 + x.toNat = 48 ∨ 48 + x.toNat = 49; omega)⟩, e, List.map_map]
  congr 1
  conv => rhs; rw [← List.map_id V]
  exact List.map_congr_left fun x hx => by have := h x hx; show ((48 + x.toNat : Nat) : Int) - 48 = x; omega
theorem readF_form {many wide : Int} {xs : List Str} {a b : Str} : readF many wide (xs ++ [a, b]) = if a = "=" then (match placesF many xs with | some P => (match bitsF wide b with | some V => some (P, V) | none => none) | none => none) else none := by
  have hl : (xs ++ [a, b]).length = xs.length + 2 := by simp
  have h1 : eqW (xs ++ [a, b]) = a := by
    unfold eqW
    rw [hl, show xs.length + 2 - 2 = xs.length by omega, List.getD_eq_getElem?_getD, List.getElem?_append_right (Nat.le_refl _), Nat.sub_self]; rfl
  have h2 : lastW (xs ++ [a, b]) = b := by
    unfold lastW
    rw [hl, show xs.length + 2 - 1 = xs.length + 1 by omega, List.getD_eq_getElem?_getD, List.getElem?_append_right (by omega), show xs.length + 1 - xs.length = 1 by omega]; rfl
  unfold readF
  rw [h1, h2, hl, show xs.length + 2 - 2 = xs.length by omega, List.take_left]
  by_cases e : a = "="
  · rw [if_pos ⟨by omega, e⟩, if_pos e] <;> rfl
  · rw [if_neg (fun z => e z.2), if_neg e]
theorem read_good {many wide : Int} {P V : List Int} (h1 : placesF many (P.map numS) = some P) (h2 : bitsF wide (bitsS V) = some V) : readF many wide (wordsW P V) = some (P, V) := by
  unfold wordsW
  rw [readF_form, if_pos rfl, h1, h2]
theorem bad_eq {many wide : Int} {xs : List Str} {a b : Str} (h : a ≠ "=") : readF many wide (xs ++ [a, b]) = none := by rw [readF_form, if_neg h]
theorem bad_pl {many wide : Int} {xs : List Str} {a b : Str} (h : placesF many xs = none) : readF many wide (xs ++ [a, b]) = none := by
  rw [readF_form, h]; split <;> rfl
theorem bad_bits {many wide : Int} {xs : List Str} {a b : Str} (h : bitsF wide b = none) : readF many wide (xs ++ [a, b]) = none := by
  rw [readF_form, h]
  split
  · split <;> rfl
  · rfl
theorem bad_short {many wide : Int} {ws : List Str} (h : ws.length < 2) : readF many wide ws = none := by
  unfold readF
  rw [if_neg fun z => by omega]
theorem unk24 : ∀ w ∈ ([("" : Str), "01", "00", "-0", "+0", "a", "="] : List Str), ∀ j < 24, numS ((j : Nat) : Int) ≠ w := by decide +kernel
theorem unk {many : Int} (hm : many ≤ 24) {w : Str} (h : w ∈ ([("" : Str), "01", "00", "-0", "+0", "a", "="] : List Str)) : slook (knownL many) w = none := slook_no fun j hj => unk24 w h j (by omega)
theorem unk_many {many : Int} (hm : 0 ≤ many) : slook (knownL many) (numS many) = none := slook_no fun j hj z => by
  have e : many = ((many.toNat : Nat) : Int) := by omega
  rw [e] at z
  have := numS_inj z
  omega
theorem num_ne_eq {x : Int} (h : 0 ≤ x) : numS x ≠ "=" := fun z => by
  have e : x = ((x.toNat : Nat) : Int) := by omega
  have h61 : (61 : Nat) ∈ TL.tl (numS x) := by rw [z]; decide +kernel
  unfold numS at h61
  rw [e, TL.tl_num] at h61
  exact TL.numL_free (.inr (by decide)) h61
theorem bits_ne_eq {V : List Int} (h : ∀ x ∈ V, 0 ≤ x ∧ x < 2) : bitsS V ≠ "=" := fun z => by
  have h61 : (61 : Nat) ∈ TL.tl (bitsS V) := by rw [z]; decide +kernel
  rw [bitsS_tl h] at h61
  obtain ⟨x, hx, e⟩ := List.mem_map.mp h61
  have := h x hx
  omega
def NoSp (ws : List Str) : Prop := ∀ w ∈ ws, 32 ∉ TL.tl w
theorem nsN : NoSp [] := fun _ h => nomatch h
theorem nsC {w : Str} {r : List Str} (h : 32 ∉ TL.tl w) (hr : NoSp r) : NoSp (w :: r) := fun z hz => by
  rcases List.mem_cons.mp hz with rfl | h2
  · exact h
  · exact hr z h2
theorem nsA {a b : List Str} (h1 : NoSp a) (h2 : NoSp b) : NoSp (a ++ b) := fun z hz => (List.mem_append.mp hz).elim (h1 z) (h2 z)
theorem nsP {P : List Int} (h : ∀ x ∈ P, 0 ≤ x) : NoSp (P.map numS) := fun w hw => by
  obtain ⟨x, hx, rfl⟩ := List.mem_map.mp hw
  exact num_nosp (h x hx)
theorem nsW {P V : List Int} (h : ∀ x ∈ P, 0 ≤ x) (h2 : ∀ x ∈ V, 0 ≤ x ∧ x < 2) : NoSp (wordsW P V) := nsA (nsP h) (nsC (by decide +kernel) (nsC (bits_nosp h2) nsN))
theorem tail_tl (z : Str) : TL.tl (tailS z) = (TL.tl z).drop 1 := by
  unfold tailS cutS
  show (((z.cps.toList.drop (HT.sIx z.length 0 (some 1))).take (HT.sIx z.length z.length none - HT.sIx z.length 0 (some 1)))) = z.cps.toList.drop 1
  rw [HT.sIx_none]
  by_cases h : 1 ≤ z.length
  · rw [show HT.sIx z.length 0 (some 1) = 1 from by unfold HT.sIx; simp only []; rw [if_neg (by decide)]; show min 1 z.length = 1; omega, List.take_of_length_le]
    rw [List.length_drop, Array.length_toList]; exact Nat.le_refl _
  · have h0 : z.cps.toList = [] := List.eq_nil_of_length_eq_zero (by rw [Array.length_toList]; have : z.cps.size = z.length := rfl; omega)
    rw [h0]; simp
theorem tl_app (a b : Str) : TL.tl (a ++ b) = TL.tl a ++ TL.tl b := TL.tl_append a b
theorem tail_nosp {V : List Int} (h : ∀ x ∈ V, 0 ≤ x ∧ x < 2) : 32 ∉ TL.tl (tailS (bitsS V)) := fun z => by
  rw [tail_tl] at z
  exact bits_nosp h (List.mem_of_mem_drop z)
theorem app_nosp {a b : Str} (h1 : 32 ∉ TL.tl a) (h2 : 32 ∉ TL.tl b) : 32 ∉ TL.tl (a ++ b) := by
  rw [tl_app, List.mem_append]; exact fun z => z.elim h1 h2
theorem bits_len_bad {wide : Int} {w : Str} (h : (w.length : Int) ≠ wide) : bitsF wide w = none := by unfold bitsF; rw [if_neg fun z => h z.1]
theorem bits_sign_bad {wide : Int} {w : Str} {c : Nat} (hc : c ∈ TL.tl w) (h : okSign c = false) : bitsF wide w = none := by
  unfold bitsF
  rw [if_neg fun z => ?_]
  have := List.all_eq_true.mp z.2 c hc
  rw [h] at this; cases this
theorem sum_len_le {ws : List Str} {b : Nat} (h : ∀ w ∈ ws, w.length ≤ b) : (textW ws).length ≤ ws.length * (b + 1) := by
  unfold textW
  rw [TL.len_tl, TL.join_eq, TL.tl_join]
  have key : ∀ ws : List Str, (∀ w ∈ ws, w.length ≤ b) → (TL.joinL (TL.tl (" " : Str)) (ws.map TL.tl)).length ≤ ws.length * (b + 1) := by
    intro ws
    induction ws with
    | nil => intro _; show 0 ≤ _; omega
    | cons a r ih =>
      intro h
      have h1 : (TL.tl a).length ≤ b := by rw [← TL.len_tl]; exact h a List.mem_cons_self
      have h2 := ih fun w hw => h w (List.mem_cons_of_mem _ hw)
      rw [List.length_cons, Nat.succ_mul]
      cases r with
      | nil =>
        show (TL.tl a).length ≤ _
        omega
      | cons c t =>
        show (TL.tl a ++ (TL.tl (" " : Str) ++ TL.joinL (TL.tl (" " : Str)) ((c :: t).map TL.tl))).length ≤ _
        rw [List.length_append, List.length_append, sp_tl]
        rw [sp_tl] at h2
        show _ + (1 + _) ≤ _
        omega
  exact key ws h
theorem txt_ok {many : Int} {t : Str} {ws : List Str} (e : t = textW ws) (hm : 0 ≤ many) (hm2 : many ≤ 24) (hn : ws ≠ []) (hs : NoSp ws) (hl : ws.length ≤ 27) (hw : ∀ w ∈ ws, w.length ≤ 33) : TxtOk t many ∧ Txt.split t " " = ws := by
  subst e
  have es := split_w hn hs
  have := sum_len_le hw
  refine ⟨⟨hm, by omega, by have : ws.length * (33 + 1) ≤ 27 * 34 := Nat.mul_le_mul_right _ hl; omega, by rw [es]; omega, fun w h => ?_⟩, es⟩
  rw [es] at h
  have := hw w h; omega
theorem p_len {P : List Int} {many : Int} (h : risesF (-1) many P = true) (hm : 0 ≤ many) (hm2 : many ≤ 24) : P.length ≤ 24 := by
  have z := risesF_iff.mp h
  exact up_len (n := 24) (lo := 0) z.1 fun x hx => by have := z.2 x hx; omega
/-- a word of a row: no blank, not long -/
def Wd (w : Str) : Prop := 32 ∉ TL.tl w ∧ w.length ≤ 33
def WdL (ws : List Str) : Prop := ∀ w ∈ ws, Wd w
theorem wN : WdL [] := fun _ h => nomatch h
theorem wC {w : Str} {r : List Str} (h : Wd w) (hr : WdL r) : WdL (w :: r) := fun z hz => by
  rcases List.mem_cons.mp hz with rfl | h2
  · exact h
  · exact hr z h2
theorem wdA {a b : List Str} (h1 : WdL a) (h2 : WdL b) : WdL (a ++ b) := fun z hz => (List.mem_append.mp hz).elim (h1 z) (h2 z)
theorem wdNum {x : Int} (h : 0 ≤ x) (h1 : x < 1000) : Wd (numS x) := ⟨num_nosp h, by have := numS_len h h1; omega⟩
theorem wP {P : List Int} (h : ∀ x ∈ P, 0 ≤ x ∧ x < 1000) : WdL (P.map numS) := fun w hw => by
  obtain ⟨x, hx, rfl⟩ := List.mem_map.mp hw
  exact wdNum (h x hx).1 (h x hx).2
theorem wdB {V : List Int} (h : ∀ x ∈ V, 0 ≤ x ∧ x < 2) (hl : V.length ≤ 32) : Wd (bitsS V) := ⟨bits_nosp h, by rw [bitsS_len h]; omega⟩
theorem tail_len {V : List Int} (h : ∀ x ∈ V, 0 ≤ x ∧ x < 2) : (tailS (bitsS V)).length = V.length - 1 := by
  rw [TL.len_tl, tail_tl, List.length_drop, bitsS_tl h, List.length_map]
theorem app_len (a b : Str) : (a ++ b).length = a.length + b.length := by
  rw [TL.len_tl, tl_app, List.length_append, ← TL.len_tl, ← TL.len_tl]
theorem places_norise {many : Int} {ws : List Str} {ns : List Int} (h : ws.map (slook (knownL many)) = ns.map some) (hr : risesF (-1) many ns = false) : placesF many ws = none := by
  have e : ws.map (fun w => (slook (knownL many) w).getD 0) = ns := by
    have := congrArg (List.map fun o : Option Int => o.getD 0) h
    rw [List.map_map, List.map_map] at this
    rw [show (fun w => (slook (knownL many) w).getD 0) = (fun o : Option Int => o.getD 0) ∘ slook (knownL many) from rfl, this]
    conv => rhs; rw [← List.map_id ns]
    rfl
  unfold placesF
  rw [e, hr]
  split
  · rfl
  · rfl
structure RowBad (many wide : Int) (row : List Str) : Prop where
  mk' ::
  ex : ∃ ws : List Str, textW row = textW ws ∧ ws ≠ [] ∧ WdL ws ∧ ws.length ≤ 27 ∧ readF many wide ws = none
theorem RowBad.ok {many wide : Int} {row : List Str} (h : RowBad many wide row) (hm : 0 ≤ many) (hm2 : many ≤ 24) : TxtOk (textW row) many ∧ readF many wide (Txt.split (textW row) " ") = none := by
  obtain ⟨ws, e, hn, hw, hl, hr⟩ := h.ex
  obtain ⟨a, b⟩ := txt_ok e hm hm2 hn (fun w h => (hw w h).1) hl (fun w h => (hw w h).2)
  exact ⟨a, by rw [b]; exact hr⟩
theorem rb {many wide : Int} {ws : List Str} (hn : ws ≠ []) (hw : WdL ws) (hl : ws.length ≤ 27) (hr : readF many wide ws = none) : RowBad many wide ws := ⟨ws, rfl, hn, hw, hl, hr⟩
structure K4 (P V : List Int) (many wide : Int) : Prop where
  p : ∀ x ∈ P, 0 ≤ x ∧ x < many
  up : risesF (-1) many P = true
  v : ∀ x ∈ V, 0 ≤ x ∧ x < 2
  vl : (V.length : Int) = wide
  w1 : 1 ≤ wide
  w2 : wide ≤ 32
  m1 : 1 ≤ many
  m2 : many ≤ 24
section
variable {P V : List Int} {many wide : Int}
theorem K4.pl (K : K4 P V many wide) : P.length ≤ 24 := p_len K.up (by have := K.m1; omega) K.m2
theorem K4.wp (K : K4 P V many wide) : WdL (P.map numS) := wP fun x hx => by have := K.p x hx; have := K.m2; omega
theorem K4.wb (K : K4 P V many wide) : Wd (bitsS V) := wdB K.v (by have := K.vl; have := K.w2; omega)
theorem K4.we (K : K4 P V many wide) : WdL ([("=" : Str), bitsS V]) := wC (by refine ⟨by decide +kernel, by decide⟩) (wC K.wb wN)
theorem K4.ww (K : K4 P V many wide) : WdL (wordsW P V) := wdA K.wp K.we
theorem wdS {w : Str} (h : w ∈ ([("" : Str), "01", "00", "-0", "+0", "a", "=", "==", "0", "1"] : List Str)) : Wd w := by
  have : ∀ w ∈ ([("" : Str), "01", "00", "-0", "+0", "a", "=", "==", "0", "1"] : List Str), 32 ∉ TL.tl w ∧ w.length ≤ 33 := by decide +kernel
  exact this w h
theorem words_len : (wordsW P V).length = P.length + 2 := by unfold wordsW; rw [List.length_append, List.length_map]; rfl
theorem row0 (K : K4 P V many wide) {n : Nat} (hn : n ≤ P.length + 2) : RowBad many wide ((wordsW P V).take n ++ [("" : Str)] ++ (wordsW P V).drop n) := by
  have hpl := K.pl
  refine rb (by simp) (wdA (wdA (fun w h => K.ww w (List.mem_of_mem_take h)) (wC (wdS (by simp)) wN)) (fun w h => K.ww w (List.mem_of_mem_drop h))) (by simp only [List.length_append, List.length_take, List.length_drop, words_len, List.length_cons, List.length_nil]; omega) ?_
  unfold wordsW
  by_cases h0 : n ≤ P.length
  · rw [List.take_append_of_le_length (by rw [List.length_map]; exact h0), List.drop_append_of_le_length (by rw [List.length_map]; exact h0), ← List.append_assoc]
    exact bad_pl (places_bad (w := "") (by simp) (unk K.m2 (by simp)))
  · by_cases h1 : n = P.length + 1
    · subst h1
      have e1 : (P.map numS ++ [("=" : Str), bitsS V]).take (P.length + 1) = P.map numS ++ [("=" : Str)] := by
        rw [List.take_append, List.take_of_length_le (by simp)]; simp
      have e2 : (P.map numS ++ [("=" : Str), bitsS V]).drop (P.length + 1) = [bitsS V] := by
        rw [List.drop_append]; simp
      rw [e1, e2, show P.map numS ++ [("=" : Str)] ++ [("" : Str)] ++ [bitsS V] = (P.map numS ++ [("=" : Str)]) ++ [("" : Str), bitsS V] from by simp]
      exact bad_eq (by decide +kernel)
    · have h2 : n = P.length + 2 := by omega
      subst h2
      rw [List.take_of_length_le (by simp), List.drop_of_length_le (by simp), show P.map numS ++ [("=" : Str), bitsS V] ++ [("" : Str)] ++ [] = (P.map numS ++ [("=" : Str)]) ++ [bitsS V, ("" : Str)] from by simp]
      exact bad_eq (bits_ne_eq K.v)
theorem rowEnd (K : K4 P V many wide) {w : Str} (h : w ∈ ([("" : Str), "01", "00", "-0", "+0", "a", "=", "==", "0", "1"] : List Str)) : RowBad many wide (wordsW P V ++ [w]) := by
  have hpl := K.pl
  refine rb (by simp) (wdA K.ww (wC (wdS h) wN)) (by simp only [List.length_append, words_len, List.length_cons, List.length_nil]; omega) ?_
  rw [show wordsW P V ++ [w] = (P.map numS ++ [("=" : Str)]) ++ [bitsS V, w] from by unfold wordsW; simp]
  exact bad_eq (bits_ne_eq K.v)
theorem rowHead (K : K4 P V many wide) {w : Str} (hw : Wd w) (h : slook (knownL many) w = none) : RowBad many wide ([w] ++ wordsW P V) := by
  have hpl := K.pl
  refine rb (by simp) (wdA (wC hw wN) K.ww) (by simp only [List.length_append, words_len, List.length_cons, List.length_nil]; omega) ?_
  unfold wordsW
  rw [← List.append_assoc]
  exact bad_pl (places_bad (w := w) (by simp) h)
theorem rowCut (K : K4 P V many wide) {w : Str} (hw : Wd w) : RowBad many wide (P.map numS ++ [w]) := by
  have hpl := K.pl
  refine rb (by simp) (wdA K.wp (wC hw wN)) (by simp only [List.length_append, List.length_map, List.length_cons, List.length_nil]; omega) ?_
  rcases List.eq_nil_or_concat P with rfl | ⟨Q, x, rfl⟩
  · exact bad_short (by simp)
  · have hx := K.p x (by simp)
    rw [show (Q.concat x).map numS ++ [w] = Q.map numS ++ [numS x, w] from by simp]
    exact bad_eq (num_ne_eq hx.1)
theorem rowBits (K : K4 P V many wide) {w : Str} (hw : Wd w) (h : bitsF wide w = none) : RowBad many wide (P.map numS ++ [("=" : Str)] ++ [w]) := by
  have hpl := K.pl
  refine rb (by simp) (wdA (wdA K.wp (wC (wdS (by simp)) wN)) (wC hw wN)) (by simp only [List.length_append, List.length_map, List.length_cons, List.length_nil]; omega) ?_
  rw [show P.map numS ++ [("=" : Str)] ++ [w] = P.map numS ++ [("=" : Str), w] from by simp]
  exact bad_bits h
theorem rowPl (K : K4 P V many wide) {xs : List Str} (hw : WdL xs) (hl : xs.length ≤ 25) (h : placesF many xs = none) : RowBad many wide (xs ++ [("=" : Str), bitsS V]) := by
  refine rb (by simp) (wdA hw K.we) (by simp only [List.length_append, List.length_cons, List.length_nil]; omega) (bad_pl h)
theorem tl0 (s : String) : TL.tl (s : Str) = s.toList.map Char.toNat := TL.tl_ofString s
theorem row19 (K : K4 P V many wide) : RowBad many wide ([("0 " : Str)] ++ [("=" : Str), bitsS V]) := by
  refine ⟨["0", "", "=", bitsS V], ?_, by simp, wC (wdS (by simp)) (wC (wdS (by simp)) K.we), by simp, ?_⟩
  · unfold textW
    refine TL.ext_tl ?_
    rw [TL.join_eq, TL.join_eq, TL.tl_join, TL.tl_join]
    show TL.tl ("0 " : Str) ++ (TL.tl (" " : Str) ++ (TL.tl ("=" : Str) ++ (TL.tl (" " : Str) ++ TL.tl (bitsS V)))) = TL.tl ("0" : Str) ++ (TL.tl (" " : Str) ++ (TL.tl ("" : Str) ++ (TL.tl (" " : Str) ++ (TL.tl ("=" : Str) ++ (TL.tl (" " : Str) ++ TL.tl (bitsS V))))))
    rw [show TL.tl ("0 " : Str) = [48, 32] from by decide +kernel, sp_tl, show TL.tl ("0" : Str) = [48] from by decide +kernel, show TL.tl ("" : Str) = [] from by decide +kernel]
    rfl
  · exact bad_pl (xs := ["0", ""]) (places_bad (w := "") (by simp) (unk K.m2 (by simp)))
theorem row21 (K : K4 P V many wide) : RowBad many wide ([("1" : Str), "0"] ++ [("=" : Str), bitsS V]) := by
  refine rowPl K (wC (wdS (by simp)) (wC (wdS (by simp)) wN)) (by simp) ?_
  have e1 : ("1" : Str) = numS ((1 : Nat) : Int) := by decide +kernel
  have e0 : ("0" : Str) = numS ((0 : Nat) : Int) := by decide +kernel
  have hm := K.m1
  by_cases z : many = 1
  · refine places_bad (w := "1") (by simp) ?_
    rw [e1, show ((1 : Nat) : Int) = many from z.symm]
    exact unk_many (by omega)
  · refine places_norise (ns := [1, 0]) ?_ ?_
    · rw [e1, e0]
      show [slook (knownL many) (numS ((1 : Nat) : Int)), slook (knownL many) (numS ((0 : Nat) : Int))] = _
      rw [slook_num (j := 1) (by omega), slook_num (j := 0) (by omega)]
      rfl
    · cases y : risesF (-1) many [1, 0] with
      | false => rfl
      | true =>
        have := (risesF_iff.mp y).1
        have := (List.pairwise_cons.mp this).1 0 (by simp)
        omega
theorem row12 (K : K4 P V many wide) : RowBad many wide ([numS (many - 1), numS (many - 1)] ++ [("=" : Str), bitsS V]) := by
  have hm := K.m1
  have hm2 := K.m2
  have hw : Wd (numS (many - 1)) := wdNum (by omega) (by omega)
  refine rowPl K (wC hw (wC hw wN)) (by simp) (places_norise (ns := [many - 1, many - 1]) ?_ ?_)
  · have e : many - 1 = (((many - 1).toNat : Nat) : Int) := by omega
    show [slook (knownL many) (numS (many - 1)), slook (knownL many) (numS (many - 1))] = _
    rw [e, slook_num (by omega)]
    rfl
  · cases y : risesF (-1) many [many - 1, many - 1] with
    | false => rfl
    | true =>
      have := (risesF_iff.mp y).1
      have := (List.pairwise_cons.mp this).1 (many - 1) (by simp)
      omega
theorem rowSign (K : K4 P V many wide) {s : Str} {c : Nat} (hs : TL.tl s = [c]) (hc : okSign c = false) (h32 : c ≠ 32) : RowBad many wide (P.map numS ++ [("=" : Str)] ++ [s ++ tailS (bitsS V)]) := by
  have hv := K.vl
  have hw := K.w2
  refine rowBits K ⟨app_nosp (by rw [hs]; simp; omega) (tail_nosp K.v), ?_⟩ (bits_sign_bad (c := c) (by rw [tl_app, hs]; simp) hc)
  rw [app_len, tail_len K.v, TL.len_tl, hs]
  show 1 + _ ≤ _
  omega
theorem spoilt_bad (K : K4 P V many wide) {way at_ : Int} (h0 : 0 ≤ way) (h1 : way < 24) (h2 : 0 ≤ at_) (h3 : at_ ≤ P.length + 2) : RowBad many wide ((spoiltF P V at_ many).getD way.toNat []) := by
  have hm := K.m1
  have hm2 := K.m2
  have hv := K.vl
  have hw1 := K.w1
  have hw2 := K.w2
  have h : way = 0 ∨ way = 1 ∨ way = 2 ∨ way = 3 ∨ way = 4 ∨ way = 5 ∨ way = 6 ∨ way = 7 ∨ way = 8 ∨ way = 9 ∨ way = 10 ∨ way = 11 ∨ way = 12 ∨ way = 13 ∨ way = 14 ∨ way = 15 ∨ way = 16 ∨ way = 17 ∨ way = 18 ∨ way = 19 ∨ way = 20 ∨ way = 21 ∨ way = 22 ∨ way = 23 := by omega
  rcases h with rfl | rfl | rfl | rfl | rfl | rfl | rfl | rfl | rfl | rfl | rfl | rfl | rfl | rfl | rfl | rfl | rfl | rfl | rfl | rfl | rfl | rfl | rfl | rfl
  · exact row0 K (n := at_.toNat) (by omega)
  · exact rowEnd K (w := "") (by simp)
  · exact rowHead K (w := "") (wdS (by simp)) (unk hm2 (by simp))
  · exact rowEnd K (w := "1") (by simp)
  · exact rowCut K (w := "=") (wdS (by simp))
  · exact rowCut K K.wb
  · refine rowBits K (w := bitsS V ++ ("0" : Str)) ⟨app_nosp (bits_nosp K.v) (by decide +kernel), ?_⟩ (bits_len_bad ?_)
    · rw [app_len, bitsS_len K.v, show (("0" : Str)).length = 1 from rfl]; omega
    · rw [app_len, bitsS_len K.v, show (("0" : Str)).length = 1 from rfl]; omega
  · refine rowBits K (w := tailS (bitsS V)) ⟨tail_nosp K.v, ?_⟩ (bits_len_bad ?_)
    · rw [tail_len K.v]; omega
    · rw [tail_len K.v]; omega
  · exact rowSign K (s := "2") (c := 50) (by decide +kernel) (by decide +kernel) (by decide)
  · exact rowSign K (s := "+") (c := 43) (by decide +kernel) (by decide +kernel) (by decide)
  · have hpl := K.pl
    show RowBad many wide (P.map numS ++ [("==" : Str)] ++ [bitsS V])
    refine rb (by simp) (wdA (wdA K.wp (wC (wdS (by simp)) wN)) (wC K.wb wN)) (by simp only [List.length_append, List.length_map, List.length_cons, List.length_nil]; omega) ?_
    rw [show P.map numS ++ [("==" : Str)] ++ [bitsS V] = P.map numS ++ [("==" : Str), bitsS V] from by simp]
    exact bad_eq (by decide +kernel)
  · exact rowHead K (w := numS many) (wdNum (by omega) (by omega)) (unk_many (by omega))
  · exact row12 K
  · exact rowPl K (xs := [numS many]) (wC (wdNum (by omega) (by omega)) wN) (by simp) (places_bad (w := numS many) (by simp) (unk_many (by omega)))
  · exact rowPl K (xs := ["01"]) (wC (wdS (by simp)) wN) (by simp) (places_bad (w := "01") (by simp) (unk hm2 (by simp)))
  · exact rowPl K (xs := ["00"]) (wC (wdS (by simp)) wN) (by simp) (places_bad (w := "00") (by simp) (unk hm2 (by simp)))
  · exact rowPl K (xs := ["-0"]) (wC (wdS (by simp)) wN) (by simp) (places_bad (w := "-0") (by simp) (unk hm2 (by simp)))
  · exact rowPl K (xs := ["+0"]) (wC (wdS (by simp)) wN) (by simp) (places_bad (w := "+0") (by simp) (unk hm2 (by simp)))
  · exact rowPl K (xs := ["a"]) (wC (wdS (by simp)) wN) (by simp) (places_bad (w := "a") (by simp) (unk hm2 (by simp)))
  · exact row19 K
  · exact rowPl K (xs := ["0", "="]) (wC (wdS (by simp)) (wC (wdS (by simp)) wN)) (by simp) (places_bad (w := "=") (by simp) (unk hm2 (by simp)))
  · exact row21 K
  · exact ⟨[""], rfl, by simp, wC (wdS (by simp)) wN, by simp, bad_short (by simp)⟩
  · exact rb (ws := ["="]) (by simp) (wC (wdS (by simp)) wN) (by simp) (bad_short (by simp))
theorem good_txt (K : K4 P V many wide) : TxtOk (textW (wordsW P V)) many ∧ readF many wide (Txt.split (textW (wordsW P V)) " ") = some (P, V) := by
  have hm := K.m1
  have hpl := K.pl
  have hwl := words_len (P := P) (V := V)
  obtain ⟨a, b⟩ := txt_ok (many := many) (t := textW (wordsW P V)) rfl (by omega) K.m2 (fun z => by rw [z] at hwl; simp at hwl) (fun w h => (K.ww w h).1) (by omega) (fun w h => (K.ww w h).2)
  exact ⟨a, by rw [b]; exact read_good (places_good K.up K.p) (bits_good K.v K.vl)⟩
end
theorem text_sum (ws : List Str) : (ws.map (·.length)).sum + ws.length ≤ (textW ws).length + 1 := by
  unfold textW
  rw [TL.len_tl, TL.join_eq, TL.tl_join, sp_tl]
  induction ws with
  | nil => simp
  | cons a r ih =>
    rw [List.map_cons, List.sum_cons, List.length_cons, TL.len_tl a]
    cases r with
    | nil =>
      show (TL.tl a).length + 0 + (0 + 1) ≤ (TL.tl a).length + 1
      omega
    | cons c t =>
      have e : (TL.joinL [32] ((a :: c :: t).map TL.tl)).length = (TL.tl a).length + (1 + (TL.joinL [32] ((c :: t).map TL.tl)).length) := by
        show (TL.tl a ++ ([32] ++ TL.joinL [32] ((c :: t).map TL.tl))).length = _
        rw [List.length_append, List.length_append]; rfl
      rw [e]
      omega
theorem text_cost {ws : List Str} {many : Int} (h : TxtOk (textW ws) many) : (ws.map (·.length)).sum + ws.length * (" " : Str).length ≤ 16777216 := by
  have h1 := text_sum ws
  have h2 := h.tl
  show _ + ws.length * 1 ≤ _
  omega
def R_law : List Ar → PyData → Prop := fun ars d => ∃ ns : List Int, ars = [.scr ns] ∧ d = .bool true
theorem ok_law {M : Md} {f : Addr} {fd : FuncData} {k : Nat} {CB : Addr} (Fu : Fun M.K "law" "law" sLaw f fd) (hC : FnA M 1 "_law_cell_at" R_cell) (hM : FnA M 1 "_law_mix" R_mix) (hZ : FnA M 2 "_law_sizes" R_sizes) (hS : FnA M 2 "_law_set" R_set) (hB : FnA M 2 "_law_bits" R_bits) (hSh : FnA M 1 "shown" R_shown) (hR : FnX M 3 "read" R_read (RX_read CB)) (hK : FnA M 2 "_law_kinds_good" R_kinds) (hF : FnA M 4 "_law_refused" R_refused04) (hP : FnA M 1 "_law_spoilt" R_spoilt) (hk : 4 ≤ k) (m1 : M.mg "len" = none) (m2 : M.mg "str" = none) (m3 : M.mg "list" = none) (m4 : M.mg "isinstance" = none) : FnOk M.P M.w M.K M.mg M.base (L2.CX M.P M.w) (k + 1) f fd ["_law_script"] (spP M.K R_law) := by
  refine pure_def 12 Fu scLaw (fun ars d h => ?_) rfl fun X F σ ars d Γ C Bk h hΓ E => ?_
  · obtain ⟨_, rfl, _⟩ := h; rfl
  obtain ⟨ns, rfl, rfl⟩ := h
  simp only [List.map_cons, List.map_nil, Ar.kd, List.cons_append, List.nil_append, List.replicate] at hΓ
  subst hΓ
  have hk1 : 1 ≤ k := by omega
  have hk2 : 2 ≤ k := by omega
  have hk3 : 3 ≤ k := by omega
  walk_at "twoL"
  case s6 => rfl
  case s4 => walk_at "nrm"
  intro σ G H E
  have b1 := manyI_bd (cellAt ns 0)
  have b2 := wideI_bd (cellAt ns 1)
  generalize manyI (cellAt ns 0) = many at *
  generalize wideI (cellAt ns 1) = wide at *
  have a0 : 0 ≤ many := by omega
  have a1 : many ≤ 1000 := by omega
  have a2 : 0 ≤ wide := by omega
  have a3 : wide ≤ 1000 := by omega
  have a4 : 1 ≤ many := by omega
  have a5 : many ≤ 24 := by omega
  have a6 : 1 ≤ wide := by omega
  have a7 : wide ≤ 32 := by omega
  walk_at "set"
  walk_at "set"
  rename_i E
  have hp := setI_ok (c := cellAt ns 2) (n := many) a4
  have hv := bitsI_bits (c := cellAt ns 3) (w := wide)
  have K : K4 (setI (cellAt ns 2) many) (bitsI (cellAt ns 3) wide) many wide := ⟨hp.2, setI_rises a4, fun x hx => by have := hv.2 x hx; omega, by have := hv.1; omega, a6, a7, a4, a5⟩
  clear hp hv
  generalize setI (cellAt ns 2) many = P at *
  generalize bitsI (cellAt ns 3) wide = V at *
  have hPl := K.pl
  have hVl := K.vl
  have hP1 : ∀ x ∈ P, 0 ≤ x ∧ x < 1000 := fun x hx => by have := K.p x hx; omega
  have hVb := K.v
  have hwl := words_len (P := P) (V := V)
  obtain ⟨gt1, gt2⟩ := good_txt K
  refine' ws_set (i := 7) (d := .list ((wordsW P V).map .str)) C Bk E ?s1 ?sd ?s2 ?s3 ?s4 (fun σ G H E => ?_) rfl
  case s1 => walk_at "sel"
  case sd => rfl
  case s2 => walk_at "vis"
  case s4 => walk_at "nrm"
  case s3 =>
    refine NP.ep (NP.eq (np_cat (da := (P.map numS).map .str) (db := [.str "=", .str (bitsS V)]) ?l1 ?l2 ?l3) ?l4)
    case l4 => unfold wordsW; rw [List.map_append]; rfl
    case l3 => simp only [List.length_map, List.length_cons, List.length_nil]; unfold cap; omega
    case l1 =>
      refine NP.lp (NP.eq (ds := P.map (PyData.str ∘ numS)) (np_lc C ?c1 (by intro _; rfl)) (by rw [List.map_map]))
      refine' cp_list0 (i := 5) (f := PyData.int) (fE := PyData.str ∘ numS) (xs := P) (by assumption) ?vx ?vd ?vs ?vok ?vl ?vf ?vE
      case vx => walk_at "sel"
      case vd => rfl
      case vs => walk_at "lp"
      case vok => walk_at "vis"
      case vl => walk_at "vis"
      case vf => walk_at "vis"
      case vE =>
        intro y hy
        have hb := hP1 y hy
        walk_at "lc"
        exact ep_strI (by assumption) m2 (by walk_at "ep") (num_logI hb.1 hb.2)
    case l2 =>
      refine NP.lp (np_lst (ap_cons ep_str (ap_cons (ep_join (s := ("" : Str)) (ys := V.map numS) ep_str (NP.lp (NP.eq (ds := (V.filter fun _ => true).map (PyData.str ∘ numS)) (np_lc C ?c2 (by intro _; rfl)) (by rw [filter_tt, List.map_map]))) ?z rfl rfl rfl) ap_nil)) (by simp [cap]))
      case z =>
        have := sum_le_str (ys := V.map numS) (b := 3) fun y hy => by
          obtain ⟨x, hx, rfl⟩ := List.mem_map.mp hy
          have := hVb x hx
          exact numS_len this.1 (by omega)
        rw [List.length_map] at this ⊢
        show _ + V.length * 0 ≤ _
        omega
      case c2 =>
        refine' cp_tup (i := 6) (f := PyData.int) (fE := PyData.str ∘ numS) (pT := fun _ => true) (xs := V) (by assumption) ?ux ?ud ?us ?uok ?ul ?uf ?uT ?uE
        case ux => walk_at "sel"
        case ud => rfl
        case us => walk_at "ep"
        case uok => walk_at "vis"
        case ul => walk_at "vis"
        case uf => walk_at "vis"
        case uT => intro y hy s H0 C0 cl fp _; exact tsp_nil
        case uE =>
          intro y hy _
          have hb := hVb y hy
          walk_at "lc"
          exact ep_strI (by assumption) m2 (by walk_at "ep") (num_logI hb.1 (by omega))
  try simp only [List.set_cons_zero, List.set_cons_succ] at E
  refine ws_set (i := 8) (d := lstI P) C Bk E (by walk_at "sel") rfl (by walk_at "vis") (NP.ep (np_list C m3 (by walk_at "lp"))) (by walk_at "nrm") (fun σ G H E => ?_) rfl
  try simp only [List.set_cons_zero, List.set_cons_succ] at E
  refine ws_set (i := 9) (d := .str (textW (wordsW P V))) C Bk E (by walk_at "sel") rfl (by walk_at "vis") (ep_call C hSh hk1 (by decide +kernel) (arp_lst (ds := P.map .int) (by walk_at "lp") (arp_dat (by walk_at "ep") arp_nil rfl) rfl) ⟨P, V, rfl, by omega, by omega, hP1, hVb, rfl⟩ rfl rfl (by decide +kernel)) (by walk_at "nrm") (fun σ G H E => ?_) rfl
  try simp only [List.set_cons_zero, List.set_cons_succ] at E
  refine' ws_if (t := false) (by assumption) ?x1 (fun h => nomatch h) ?x3
  case x1 =>
    refine TP_.eq (WT.tp (wt_or (t := false) (u := false) (TP_.eq (tp_not (t := true) (tp_val (EP.eq (by walk_at "ep") (by rfl)) (by intro _; rfl))) (by rfl)) fun _ => wt_or (t := false) (u := false) (TP_.eq (tp_cmp (da := .str (textW (wordsW P V))) (db := .str (textW (wordsW P V))) (by walk_at "ep") (ep_join (s := (" " : Str)) (ys := wordsW P V) ep_str (by walk_at "lp") (text_cost gt1) rfl rfl rfl) do_neS (by first | rfl | exact nomark _)) (by simp)) fun _ => wt_or1 (TP_.eq (by walk_at "tp") ?x4))) rfl
    case x4 => simp [eqD_rfl]
  case x3 =>
  intro _ G H E
  refine ws_nil ?_
  refine ws_set (i := 10) (d := .tuple [lstI P, tupI V]) C Bk E (by walk_at "sel") rfl (by walk_at "vis") (ep_call C hR.fn hk3 (by decide +kernel) (arp_dat (by walk_at "ep") (arp_dat (by walk_at "ep") (arp_dat (by walk_at "ep") arp_nil rfl) rfl) rfl) ⟨_, many, wide, P, V, rfl, gt1, gt2, rfl⟩ rfl rfl (by decide +kernel)) (by walk_at "nrm") (fun σ G H E => ?_) rfl
  try simp only [List.set_cons_zero, List.set_cons_succ] at E
  refine' ws_if (t := false) (by assumption) ?y1 (fun h => nomatch h) ?y3
  case y1 =>
    refine TP_.eq (WT.tp (wt_or (t := false) (u := false) (TP_.eq (tp_not (t := true) (tp_val (ep_call C hK hk2 (by decide +kernel) (arp_dat (by walk_at "ep") arp_nil rfl) ⟨P, V, rfl, by omega, by omega, rfl⟩ rfl rfl (by decide +kernel)) (by intro _; rfl))) (by rfl)) fun _ => wt_or1 (TP_.eq (by walk_at "tp") ?y4))) rfl
    case y4 => simp [eqD_rfl]
  case y3 =>
  intro _ G H E
  refine ws_nil ?_
  walk_at "set"
  walk_at "if"
  · walk_at "ret"
    rfl
  rename_i hw _ _ _
  rw [decide_eq_false_iff_not] at hw
  refine ws_nil ?_
  have hway := mixI_bd (c := cellAt ns 4) (q := 10133) (n := 36) (by decide)
  generalize mixI (cellAt ns 4) 10133 36 = way at *
  walk_at "set"
  rename_i E
  rw [List.length_map, hwl] at E
  have hat := mixI_bd (c := cellAt ns 5) (q := 10139) (n := ((P.length + 2 : Nat) : Int) + 1) (by omega)
  generalize mixI (cellAt ns 5) 10139 (((P.length + 2 : Nat) : Int) + 1) = at_ at *
  obtain ⟨bt1, bt2⟩ := (spoilt_bad K (way := way) (at_ := at_) hway.1 (by omega) hat.1 (by omega)).ok a0 a5
  refine ws_retP E (ep_call C hF hk (by decide +kernel) (arp_dat (ep_join (s := (" " : Str)) (ys := (spoiltF P V at_ many).getD way.toNat []) ep_str (EP.lp (ep_call C hP hk1 (by decide +kernel) (arp_lst (ds := (wordsW P V).map .str) (by walk_at "lp") (arp_dat (by walk_at "ep") (arp_dat (by walk_at "ep") (arp_dat (by walk_at "ep") arp_nil rfl) rfl) rfl) rfl) ⟨P, V, way, at_, many, rfl, by omega, by omega, hVb, hway.1, by omega, hat.1, by omega, a4, by omega, rfl⟩ rfl rfl (by decide +kernel))) (text_cost bt1) rfl rfl rfl) (arp_dat (by walk_at "ep") (arp_dat (by walk_at "ep") arp_nil rfl) rfl) rfl) ⟨_, many, wide, rfl, bt1, bt2, rfl⟩ rfl rfl (by decide +kernel)) rfl
theorem law_in {K : PySem.W.Frag} {H : Hp} {a : Addr} {ns : List Int} (hl : ns.length ≤ 63) (hS : SqL K H a (ns.map V.int)) : spP K R_law [.ref a] H (fun v _ => v = .bl true) (fun _ _ _ => False) :=
  ⟨H, [.scr ns], .bool true, .refl H, ⟨ns, rfl, rfl⟩, .cons ⟨a, rfl, hS, hl⟩ .nil, fun _ _ _ _ r => r.bl_inv⟩
theorem law_out {P : Program} {w : World} {H : Hp} {s : Shared} {e : Value} {s' : Shared} (h : L2.CX P w [] H s (fun _ _ _ => False) e s') : False := by
  obtain ⟨_, _, _, _, _, _, _, _, _, _, _, _, z⟩ := h
  exact z.elim
theorem all_mk {l : PySem.W.OpenLaw} {w : World} {K : PySem.W.Frag} {h : Heap} {mg : Str → Option Value} {fa f0 f1 f2 f3 f4 f5 f6 f7 f8 f9 f10 f11 f12 f13 f14 f15 : Addr} {od0 an0 od1 an1 od2 an2 od3 an3 od4 an4 od5 an5 od6 an6 od7 an7 od8 an8 od9 an9 od10 an10 od11 an11 od12 an12 od13 an13 od14 an14 od15 an15 : Option Addr} {sl0 sl1 sl2 sl3 sl4 sl5 sl6 sl7 sl8 sl9 sl10 sl11 sl12 sl13 sl14 sl15 : Array (Option Value)} {oc0 kV0 dc0 pm0 cd0 ct0 oc1 kV1 dc1 pm1 cd1 ct1 oc2 kV2 dc2 pm2 cd2 ct2 oc3 kV3 dc3 pm3 cd3 ct3 oc4 kV4 dc4 pm4 cd4 ct4 oc5 kV5 dc5 pm5 cd5 ct5 oc6 kV6 dc6 pm6 cd6 ct6 oc7 kV7 dc7 pm7 cd7 ct7 oc8 kV8 dc8 pm8 cd8 ct8 oc9 kV9 dc9 pm9 cd9 ct9 oc10 kV10 dc10 pm10 cd10 ct10 oc11 kV11 dc11 pm11 cd11 ct11 oc12 kV12 dc12 pm12 cd12 ct12 oc13 kV13 dc13 pm13 cd13 ct13 oc14 kV14 dc14 pm14 cd14 ct14 oc15 kV15 dc15 pm15 cd15 ct15 : Value}{E_BadPlaces E_BadText E_BadValue E_Full E_IsOut E_NoParcel E_NoYard E_NotOut E_RainError : Addr}  (X : K.In h) (G : h.Ns mainGlobals mg) (hfa : mg "law" = some (.ref fa))
    (a0 : PySem.W.nsIn K mainGlobals "_law_whole" = some (some (.ref f0)))
    (l0 : K.lookup f0 = some ⟨oc0, od0, .func (PySem.W.fnOf "_law_whole" "_law_whole" (defArgs sWhole) (defBody sWhole) (defScope sWhole) .none kV0 dc0 pm0 an0 cd0 ct0), sl0⟩)
    (c0 : PySem.W.codeIn K cd0 "_law_whole" = true) (k0 : PySem.W.keepIn K (.ref f0) = true)
    (a1 : PySem.W.nsIn K mainGlobals "_law_cell_at" = some (some (.ref f1)))
    (l1 : K.lookup f1 = some ⟨oc1, od1, .func (PySem.W.fnOf "_law_cell_at" "_law_cell_at" (defArgs sCell) (defBody sCell) (defScope sCell) .none kV1 dc1 pm1 an1 cd1 ct1), sl1⟩)
    (c1 : PySem.W.codeIn K cd1 "_law_cell_at" = true) (k1 : PySem.W.keepIn K (.ref f1) = true)
    (a2 : PySem.W.nsIn K mainGlobals "_law_mix" = some (some (.ref f2)))
    (l2 : K.lookup f2 = some ⟨oc2, od2, .func (PySem.W.fnOf "_law_mix" "_law_mix" (defArgs sMix) (defBody sMix) (defScope sMix) .none kV2 dc2 pm2 an2 cd2 ct2), sl2⟩)
    (c2 : PySem.W.codeIn K cd2 "_law_mix" = true) (k2 : PySem.W.keepIn K (.ref f2) = true)
    (a3 : PySem.W.nsIn K mainGlobals "_law_mixed" = some (some (.ref f3)))
    (l3 : K.lookup f3 = some ⟨oc3, od3, .func (PySem.W.fnOf "_law_mixed" "_law_mixed" (defArgs sMixed) (defBody sMixed) (defScope sMixed) .none kV3 dc3 pm3 an3 cd3 ct3), sl3⟩)
    (c3 : PySem.W.codeIn K cd3 "_law_mixed" = true) (k3 : PySem.W.keepIn K (.ref f3) = true)
    (a4 : PySem.W.nsIn K mainGlobals "_law_bits" = some (some (.ref f4)))
    (l4 : K.lookup f4 = some ⟨oc4, od4, .func (PySem.W.fnOf "_law_bits" "_law_bits" (defArgs sBits) (defBody sBits) (defScope sBits) .none kV4 dc4 pm4 an4 cd4 ct4), sl4⟩)
    (c4 : PySem.W.codeIn K cd4 "_law_bits" = true) (k4 : PySem.W.keepIn K (.ref f4) = true)
    (a5 : PySem.W.nsIn K mainGlobals "_law_set" = some (some (.ref f5)))
    (l5 : K.lookup f5 = some ⟨oc5, od5, .func (PySem.W.fnOf "_law_set" "_law_set" (defArgs sSet) (defBody sSet) (defScope sSet) .none kV5 dc5 pm5 an5 cd5 ct5), sl5⟩)
    (c5 : PySem.W.codeIn K cd5 "_law_set" = true) (k5 : PySem.W.keepIn K (.ref f5) = true)
    (a6 : PySem.W.nsIn K mainGlobals "_law_sizes" = some (some (.ref f6)))
    (l6 : K.lookup f6 = some ⟨oc6, od6, .func (PySem.W.fnOf "_law_sizes" "_law_sizes" (defArgs sSizes) (defBody sSizes) (defScope sSizes) .none kV6 dc6 pm6 an6 cd6 ct6), sl6⟩)
    (c6 : PySem.W.codeIn K cd6 "_law_sizes" = true) (k6 : PySem.W.keepIn K (.ref f6) = true)
    (a7 : PySem.W.nsIn K mainGlobals "rising_within" = some (some (.ref f7)))
    (l7 : K.lookup f7 = some ⟨oc7, od7, .func (PySem.W.fnOf "rising_within" "rising_within" (defArgs sRises) (defBody sRises) (defScope sRises) .none kV7 dc7 pm7 an7 cd7 ct7), sl7⟩)
    (c7 : PySem.W.codeIn K cd7 "rising_within" = true) (k7 : PySem.W.keepIn K (.ref f7) = true)
    (a8 : PySem.W.nsIn K mainGlobals "bits_of" = some (some (.ref f8)))
    (l8 : K.lookup f8 = some ⟨oc8, od8, .func (PySem.W.fnOf "bits_of" "bits_of" (defArgs sBitsOf) (defBody sBitsOf) (defScope sBitsOf) .none kV8 dc8 pm8 an8 cd8 ct8), sl8⟩)
    (c8 : PySem.W.codeIn K cd8 "bits_of" = true) (k8 : PySem.W.keepIn K (.ref f8) = true)
    (a9 : PySem.W.nsIn K mainGlobals "places_of" = some (some (.ref f9)))
    (l9 : K.lookup f9 = some ⟨oc9, od9, .func (PySem.W.fnOf "places_of" "places_of" (defArgs sPlacesOf) (defBody sPlacesOf) (defScope sPlacesOf) .none kV9 dc9 pm9 an9 cd9 ct9), sl9⟩)
    (c9 : PySem.W.codeIn K cd9 "places_of" = true) (k9 : PySem.W.keepIn K (.ref f9) = true)
    (a10 : PySem.W.nsIn K mainGlobals "shown" = some (some (.ref f10)))
    (l10 : K.lookup f10 = some ⟨oc10, od10, .func (PySem.W.fnOf "shown" "shown" (defArgs sShown) (defBody sShown) (defScope sShown) .none kV10 dc10 pm10 an10 cd10 ct10), sl10⟩)
    (c10 : PySem.W.codeIn K cd10 "shown" = true) (k10 : PySem.W.keepIn K (.ref f10) = true)
    (a11 : PySem.W.nsIn K mainGlobals "read" = some (some (.ref f11)))
    (l11 : K.lookup f11 = some ⟨oc11, od11, .func (PySem.W.fnOf "read" "read" (defArgs sRead) (defBody sRead) (defScope sRead) .none kV11 dc11 pm11 an11 cd11 ct11), sl11⟩)
    (c11 : PySem.W.codeIn K cd11 "read" = true) (k11 : PySem.W.keepIn K (.ref f11) = true)
    (a12 : PySem.W.nsIn K mainGlobals "_law_refused" = some (some (.ref f12)))
    (l12 : K.lookup f12 = some ⟨oc12, od12, .func (PySem.W.fnOf "_law_refused" "_law_refused" (defArgs sLRefused) (defBody sLRefused) (defScope sLRefused) .none kV12 dc12 pm12 an12 cd12 ct12), sl12⟩)
    (c12 : PySem.W.codeIn K cd12 "_law_refused" = true) (k12 : PySem.W.keepIn K (.ref f12) = true)
    (a13 : PySem.W.nsIn K mainGlobals "_law_kinds_good" = some (some (.ref f13)))
    (l13 : K.lookup f13 = some ⟨oc13, od13, .func (PySem.W.fnOf "_law_kinds_good" "_law_kinds_good" (defArgs sKinds) (defBody sKinds) (defScope sKinds) .none kV13 dc13 pm13 an13 cd13 ct13), sl13⟩)
    (c13 : PySem.W.codeIn K cd13 "_law_kinds_good" = true) (k13 : PySem.W.keepIn K (.ref f13) = true)
    (a14 : PySem.W.nsIn K mainGlobals "_law_spoilt" = some (some (.ref f14)))
    (l14 : K.lookup f14 = some ⟨oc14, od14, .func (PySem.W.fnOf "_law_spoilt" "_law_spoilt" (defArgs sSpoilt) (defBody sSpoilt) (defScope sSpoilt) .none kV14 dc14 pm14 an14 cd14 ct14), sl14⟩)
    (c14 : PySem.W.codeIn K cd14 "_law_spoilt" = true) (k14 : PySem.W.keepIn K (.ref f14) = true)
    (a15 : PySem.W.nsIn K mainGlobals "law" = some (some (.ref f15)))
    (l15 : K.lookup f15 = some ⟨oc15, od15, .func (PySem.W.fnOf "law" "law" (defArgs sLaw) (defBody sLaw) (defScope sLaw) .none kV15 dc15 pm15 an15 cd15 ct15), sl15⟩)
    (c15 : PySem.W.codeIn K cd15 "law" = true) (k15 : PySem.W.keepIn K (.ref f15) = true)
    (g_BadPlaces : PySem.W.nsIn K mainGlobals "BadPlaces" = some (some (.ref E_BadPlaces)))
    (g_BadText : PySem.W.nsIn K mainGlobals "BadText" = some (some (.ref E_BadText)))
    (g_BadValue : PySem.W.nsIn K mainGlobals "BadValue" = some (some (.ref E_BadValue)))
    (g_Full : PySem.W.nsIn K mainGlobals "Full" = some (some (.ref E_Full)))
    (g_IsOut : PySem.W.nsIn K mainGlobals "IsOut" = some (some (.ref E_IsOut)))
    (g_NoParcel : PySem.W.nsIn K mainGlobals "NoParcel" = some (some (.ref E_NoParcel)))
    (g_NoYard : PySem.W.nsIn K mainGlobals "NoYard" = some (some (.ref E_NoYard)))
    (g_NotOut : PySem.W.nsIn K mainGlobals "NotOut" = some (some (.ref E_NotOut)))
    (g_RainError : PySem.W.nsIn K mainGlobals "RainError" = some (some (.ref E_RainError)))
    (r1 : PySem.W.subIn K (.ref E_RainError) (.type "BaseException") = some true)
    (r2 : PySem.W.hasDictIn K E_RainError = true)
    (r3 : PySem.W.typeIn K (.ref E_RainError) = some (.type "type"))
    (e6 : PySem.W.specialIn K (.builtin "object.__class__") "__get__" = some (some (.builtin "getset_descriptor.__get__")))
    (e7 : PySem.W.takesIn K (.builtin "object.__class__") = some true)
    (x_BadText : PySem.W.excIn K E_BadText [.type "ValueError", .type "Exception", .type "BaseException", .type "object"] "ValueError.__new__" = true)
    (kp_BadText : PySem.W.keepIn K (.ref E_BadText) = true)
    (sb_BadText : PySem.W.subIn K (.ref E_BadText) (.type "BaseException") = some true)
    (tp_BadText : PySem.W.typeIn K (.ref E_BadText) = some (.type "type"))
    (e1_BadText : PySem.W.findIn K (.ref E_BadText) "__getattribute__" = some (some (.builtin "BaseException.__getattribute__")))
    (e2_BadText : PySem.W.findIn K (.ref E_BadText) "__getattr__" = some none)
    (e4_BadText : PySem.W.hasDictIn K E_BadText = true)
    (e5_BadText : PySem.W.findIn K (.ref E_BadText) "__class__" = some (some (.builtin "object.__class__")))
    (e8_BadText : PySem.W.mroIn K E_BadText (.type "object") = some true)
    (r4_BadText : PySem.W.subIn K (.ref E_BadText) (.ref E_RainError) = some true)
    (kv_BadText : PySem.W.kitOne K (.ref E_BadText) (.type "ValueError") = some true)
    (q_BadText_BadPlaces : PySem.W.kitOne K (.ref E_BadText) (.ref E_BadPlaces) = some false)
    (q_BadText_BadText : PySem.W.kitOne K (.ref E_BadText) (.ref E_BadText) = some true)
    (q_BadText_BadValue : PySem.W.kitOne K (.ref E_BadText) (.ref E_BadValue) = some false)
    (q_BadText_Full : PySem.W.kitOne K (.ref E_BadText) (.ref E_Full) = some false)
    (q_BadText_IsOut : PySem.W.kitOne K (.ref E_BadText) (.ref E_IsOut) = some false)
    (q_BadText_NoParcel : PySem.W.kitOne K (.ref E_BadText) (.ref E_NoParcel) = some false)
    (q_BadText_NoYard : PySem.W.kitOne K (.ref E_BadText) (.ref E_NoYard) = some false)
    (q_BadText_NotOut : PySem.W.kitOne K (.ref E_BadText) (.ref E_NotOut) = some false)
    (z_isinstance : PySem.W.nsIn K mainGlobals "isinstance" = some none)
    (z_int : PySem.W.nsIn K mainGlobals "int" = some none)
    (z_bool : PySem.W.nsIn K mainGlobals "bool" = some none)
    (z_len : PySem.W.nsIn K mainGlobals "len" = some none)
    (z_range : PySem.W.nsIn K mainGlobals "range" = some none)
    (z_tuple : PySem.W.nsIn K mainGlobals "tuple" = some none)
    (z_sorted : PySem.W.nsIn K mainGlobals "sorted" = some none)
    (z_set : PySem.W.nsIn K mainGlobals "set" = some none)
    (z_all : PySem.W.nsIn K mainGlobals "all" = some none)
    (z_str : PySem.W.nsIn K mainGlobals "str" = some none)
    (z_ValueError : PySem.W.nsIn K mainGlobals "ValueError" = some none)
    (z_list : PySem.W.nsIn K mainGlobals "list" = some none) :
    ∃ fd : FuncData, (∀ (s : Shared) (v : Value), BindsTo s fd ⟨[v], []⟩ [("_law_script", v)]) ∧ ∀ base : Heap, K.In base → base.Ns mainGlobals mg → FnOk l.prog w K mg base (L2.CX l.prog w) 5 fa fd ["_law_script"] (spP K R_law) := by
  have e := hfa.symm.trans (PySem.W.mg_of X G a15)
  cases e
  have F0 := fun_mk (st := sWhole) l0 c0 k0
  have F1 := fun_mk (st := sCell) l1 c1 k1
  have F2 := fun_mk (st := sMix) l2 c2 k2
  have F3 := fun_mk (st := sMixed) l3 c3 k3
  have F4 := fun_mk (st := sBits) l4 c4 k4
  have F5 := fun_mk (st := sSet) l5 c5 k5
  have F6 := fun_mk (st := sSizes) l6 c6 k6
  have F7 := fun_mk (st := sRises) l7 c7 k7
  have F8 := fun_mk (st := sBitsOf) l8 c8 k8
  have F9 := fun_mk (st := sPlacesOf) l9 c9 k9
  have F10 := fun_mk (st := sShown) l10 c10 k10
  have F11 := fun_mk (st := sRead) l11 c11 k11
  have F12 := fun_mk (st := sLRefused) l12 c12 k12
  have F13 := fun_mk (st := sKinds) l13 c13 k13
  have F14 := fun_mk (st := sSpoilt) l14 c14 k14
  have F15 := fun_mk (st := sLaw) l15 c15 k15
  refine ⟨PySem.W.fnOf "law" "law" (defArgs sLaw) (defBody sLaw) (defScope sLaw) .none kV15 dc15 pm15 an15 cd15 ct15, fun s v => .of_eq rfl, fun base _ _ => ?_⟩
  let M : Md := ⟨l.prog, w, K, mg, base⟩
  have m_isinstance : M.mg "isinstance" = none := PySem.W.mg_none_of X G z_isinstance
  have m_int : M.mg "int" = none := PySem.W.mg_none_of X G z_int
  have m_bool : M.mg "bool" = none := PySem.W.mg_none_of X G z_bool
  have m_len : M.mg "len" = none := PySem.W.mg_none_of X G z_len
  have m_range : M.mg "range" = none := PySem.W.mg_none_of X G z_range
  have m_tuple : M.mg "tuple" = none := PySem.W.mg_none_of X G z_tuple
  have m_sorted : M.mg "sorted" = none := PySem.W.mg_none_of X G z_sorted
  have m_set : M.mg "set" = none := PySem.W.mg_none_of X G z_set
  have m_all : M.mg "all" = none := PySem.W.mg_none_of X G z_all
  have m_str : M.mg "str" = none := PySem.W.mg_none_of X G z_str
  have m_ValueError : M.mg "ValueError" = none := PySem.W.mg_none_of X G z_ValueError
  have m_list : M.mg "list" = none := PySem.W.mg_none_of X G z_list
  have LB_BadText : ClsX M "BadText" E_BadText := ⟨PySem.W.mg_of X G g_BadText, x_BadText, kp_BadText, sb_BadText, tp_BadText⟩
  have EC_BadText : ExcC M.K E_BadText := ⟨e1_BadText, e2_BadText, sb_BadText, e4_BadText, e5_BadText, e6, e7, e8_BadText⟩
  have hR_BadText : PySem.W.exmOne M.K (.ref E_BadText) (.ref E_RainError) = some true := PySem.W.exm_ref r1 r2 r3 r4_BadText
  have gP : M.mg "RainError" = some (.ref E_RainError) := PySem.W.mg_of X G g_RainError
  have kin : ∀ {x : Str} {C D : Addr} {t : Bool}, PySem.W.nsIn K mainGlobals x = some (some (.ref C)) → PySem.W.kitOne K (.ref D) (.ref C) = some t → Kin M D x t := fun g q => ⟨_, PySem.W.mg_of X G g, q⟩
  have b0 := F0.binds (ps := ["_law_found"]) fun _ _ _ _ _ _ us hl => match us, hl with | [_], _ => rfl
  have FnA__law_whole : FnA M 1 "_law_whole" _ := FnA.mk' (ok_whole (M := M) (k := 0) F0 m_isinstance m_int m_bool) (PySem.W.mg_of X G a0) k0 b0
  have b1 := F1.binds (ps := ["_law_script", "_law_k"]) fun _ _ _ _ _ _ us hl => match us, hl with | [_, _], _ => rfl
  have FnA__law_cell_at : FnA M 1 "_law_cell_at" _ := FnA.mk' (ok_cell (M := M) (k := 0) F1 m_len) (PySem.W.mg_of X G a1) k1 b1
  have b2 := F2.binds (ps := ["_law_cell", "_law_prime", "_law_many"]) fun _ _ _ _ _ _ us hl => match us, hl with | [_, _, _], _ => rfl
  have FnA__law_mix : FnA M 1 "_law_mix" _ := FnA.mk' (ok_mix (M := M) (k := 0) F2) (PySem.W.mg_of X G a2) k2 b2
  have b3 := F3.binds (ps := ["_law_cell", "_law_k", "_law_many"]) fun _ _ _ _ _ _ us hl => match us, hl with | [_, _, _], _ => rfl
  have FnA__law_mixed : FnA M 1 "_law_mixed" _ := FnA.mk' (ok_mixed (M := M) (k := 0) F3) (PySem.W.mg_of X G a3) k3 b3
  have b4 := F4.binds (ps := ["_law_cell", "_law_wide"]) fun _ _ _ _ _ _ us hl => match us, hl with | [_, _], _ => rfl
  have FnA__law_bits : FnA M 2 "_law_bits" _ := FnA.mk' (ok_bits (M := M) (k := 1) F4 FnA__law_mixed (by decide) m_range m_tuple) (PySem.W.mg_of X G a4) k4 b4
  have b5 := F5.binds (ps := ["_law_cell", "_law_many"]) fun _ _ _ _ _ _ us hl => match us, hl with | [_, _], _ => rfl
  have FnA__law_set : FnA M 2 "_law_set" _ := FnA.mk' (ok_set (M := M) (k := 1) F5 FnA__law_mix FnA__law_mixed (by decide) m_range m_sorted m_set) (PySem.W.mg_of X G a5) k5 b5
  have b6 := F6.binds (ps := ["_law_one", "_law_other"]) fun _ _ _ _ _ _ us hl => match us, hl with | [_, _], _ => rfl
  have FnA__law_sizes : FnA M 2 "_law_sizes" _ := FnA.mk' (ok_sizes (M := M) (k := 1) F6 FnA__law_mix (by decide)) (PySem.W.mg_of X G a6) k6 b6
  have b7 := F7.binds (ps := ["places", "many"]) fun _ _ _ _ _ _ us hl => match us, hl with | [_, _], _ => rfl
  have FnA_rising_within : FnA M 1 "rising_within" _ := FnA.mk' (ok_rises (M := M) (k := 0) F7) (PySem.W.mg_of X G a7) k7 b7
  have b8 := F8.binds (ps := ["word", "wide"]) fun _ _ _ _ _ _ us hl => match us, hl with | [_, _], _ => rfl
  have FnX_bits_of : FnX M 1 "bits_of" _ _ := FnX.mk' (ok_bitsof (M := M) (k := 0) F8 LB_BadText m_len m_all m_tuple m_int) (PySem.W.mg_of X G a8) k8 b8
  have b9 := F9.binds (ps := ["words", "many"]) fun _ _ _ _ _ _ us hl => match us, hl with | [_, _], _ => rfl
  have FnX_places_of : FnX M 2 "places_of" _ _ := FnX.mk' (ok_placesof (M := M) (k := 1) F9 LB_BadText FnA_rising_within (by decide) m_range m_str m_all) (PySem.W.mg_of X G a9) k9 b9
  have b10 := F10.binds (ps := ["places", "value"]) fun _ _ _ _ _ _ us hl => match us, hl with | [_, _], _ => rfl
  have FnA_shown : FnA M 1 "shown" _ := FnA.mk' (ok_shown (M := M) (k := 0) F10 m_str) (PySem.W.mg_of X G a10) k10 b10
  have b11 := F11.binds (ps := ["text", "many", "wide"]) fun _ _ _ _ _ _ us hl => match us, hl with | [_, _, _], _ => rfl
  have FnX_read : FnX M 3 "read" _ _ := FnX.mk' (ok_read (M := M) (k := 2) F11 LB_BadText FnX_places_of FnX_bits_of (by decide) m_len) (PySem.W.mg_of X G a11) k11 b11
  have b12 := F12.binds (ps := ["_law_text", "_law_many", "_law_wide"]) fun _ _ _ _ _ _ us hl => match us, hl with | [_, _, _], _ => rfl
  have FnA__law_refused : FnA M 4 "_law_refused" _ := FnA.mk' (ok_refused04 (M := M) (k := 3) F12 FnX_read (by decide) EC_BadText gP hR_BadText (kin g_BadPlaces q_BadText_BadPlaces) (kin g_BadValue q_BadText_BadValue) (kin g_Full q_BadText_Full) (kin g_IsOut q_BadText_IsOut) (kin g_NoParcel q_BadText_NoParcel) (kin g_NoYard q_BadText_NoYard) (kin g_NotOut q_BadText_NotOut) (kin g_BadText q_BadText_BadText) kv_BadText m_isinstance m_ValueError) (PySem.W.mg_of X G a12) k12 b12
  have b13 := F13.binds (ps := ["_law_found"]) fun _ _ _ _ _ _ us hl => match us, hl with | [_], _ => rfl
  have FnA__law_kinds_good : FnA M 2 "_law_kinds_good" _ := FnA.mk' (ok_kinds (M := M) (k := 1) F13 FnA__law_whole (by decide) m_isinstance m_tuple m_list m_len) (PySem.W.mg_of X G a13) k13 b13
  have b14 := F14.binds (ps := ["_law_words", "_law_way", "_law_at", "_law_many"]) fun _ _ _ _ _ _ us hl => match us, hl with | [_, _, _, _], _ => rfl
  have FnA__law_spoilt : FnA M 1 "_law_spoilt" _ := FnA.mk' (ok_spoilt (M := M) (k := 0) F14 m_str) (PySem.W.mg_of X G a14) k14 b14
  exact ok_law (M := M) (k := 4) F15 FnA__law_cell_at FnA__law_mix FnA__law_sizes FnA__law_set FnA__law_bits FnA_shown FnX_read FnA__law_kinds_good FnA__law_refused FnA__law_spoilt (by decide) m_len m_str m_list m_isinstance
end Rn
open PySem PySem.W PyProof.Rows
set_option maxHeartbeats 0 in
theorem PySem.Challenge.cw_rainparcels_k04_parcels_written_holds : PySem.Challenge.rw_rainparcels_k04_parcels_written.Holds := by
  w_on; o_law; k_head; (case hw => w_witness2)
  k_fill
  refine L2.walk_of (l := PySem.Challenge.rw_rainparcels_k04_parcels_written) (n := 63) (k := 5) (x := "_law_script") (CX := fun w => L2.CX PySem.Challenge.rw_rainparcels_k04_parcels_written.prog w) (sp := fun w => Rn.spP _ Rn.R_law) rfl (by decide) rfl ⟨rfl, by decide, by decide⟩ (fun w h Y => PySem.W.kIn_of Y) ?F (fun w H a ns hl _ hS => Rn.law_in hl hS) (fun _ _ _ _ _ h => Rn.law_out h)
  case F =>
    intro w mg fa h KX G hmg
    refine' Rn.all_mk KX G hmg ?a0 ?l0 ?c0 ?k0 ?a1 ?l1 ?c1 ?k1 ?a2 ?l2 ?c2 ?k2 ?a3 ?l3 ?c3 ?k3 ?a4 ?l4 ?c4 ?k4 ?a5 ?l5 ?c5 ?k5 ?a6 ?l6 ?c6 ?k6 ?a7 ?l7 ?c7 ?k7 ?a8 ?l8 ?c8 ?k8 ?a9 ?l9 ?c9 ?k9 ?a10 ?l10 ?c10 ?k10 ?a11 ?l11 ?c11 ?k11 ?a12 ?l12 ?c12 ?k12 ?a13 ?l13 ?c13 ?k13 ?a14 ?l14 ?c14 ?k14 ?a15 ?l15 ?c15 ?k15 ?g_BadPlaces ?g_BadText ?g_BadValue ?g_Full ?g_IsOut ?g_NoParcel ?g_NoYard ?g_NotOut ?g_RainError ?r1 ?r2 ?r3 ?e6 ?e7 ?x_BadText ?kp_BadText ?sb_BadText ?tp_BadText ?e1_BadText ?e2_BadText ?e4_BadText ?e5_BadText ?e8_BadText ?r4_BadText ?kv_BadText ?q_BadText_BadPlaces ?q_BadText_BadText ?q_BadText_BadValue ?q_BadText_Full ?q_BadText_IsOut ?q_BadText_NoParcel ?q_BadText_NoYard ?q_BadText_NotOut ?z_isinstance ?z_int ?z_bool ?z_len ?z_range ?z_tuple ?z_sorted ?z_set ?z_all ?z_str ?z_ValueError ?z_list
    (case g_BadPlaces => k_is)
    (case g_BadText => k_is)
    (case g_BadValue => k_is)
    (case g_Full => k_is)
    (case g_IsOut => k_is)
    (case g_NoParcel => k_is)
    (case g_NoYard => k_is)
    (case g_NotOut => k_is)
    (case g_RainError => k_is)
    (case a0 => k_is)
    (case l0 => k_is)
    (case c0 => k_is)
    (case k0 => k_is)
    (case a1 => k_is)
    (case l1 => k_is)
    (case c1 => k_is)
    (case k1 => k_is)
    (case a2 => k_is)
    (case l2 => k_is)
    (case c2 => k_is)
    (case k2 => k_is)
    (case a3 => k_is)
    (case l3 => k_is)
    (case c3 => k_is)
    (case k3 => k_is)
    (case a4 => k_is)
    (case l4 => k_is)
    (case c4 => k_is)
    (case k4 => k_is)
    (case a5 => k_is)
    (case l5 => k_is)
    (case c5 => k_is)
    (case k5 => k_is)
    (case a6 => k_is)
    (case l6 => k_is)
    (case c6 => k_is)
    (case k6 => k_is)
    (case a7 => k_is)
    (case l7 => k_is)
    (case c7 => k_is)
    (case k7 => k_is)
    (case a8 => k_is)
    (case l8 => k_is)
    (case c8 => k_is)
    (case k8 => k_is)
    (case a9 => k_is)
    (case l9 => k_is)
    (case c9 => k_is)
    (case k9 => k_is)
    (case a10 => k_is)
    (case l10 => k_is)
    (case c10 => k_is)
    (case k10 => k_is)
    (case a11 => k_is)
    (case l11 => k_is)
    (case c11 => k_is)
    (case k11 => k_is)
    (case a12 => k_is)
    (case l12 => k_is)
    (case c12 => k_is)
    (case k12 => k_is)
    (case a13 => k_is)
    (case l13 => k_is)
    (case c13 => k_is)
    (case k13 => k_is)
    (case a14 => k_is)
    (case l14 => k_is)
    (case c14 => k_is)
    (case k14 => k_is)
    (case a15 => k_is)
    (case l15 => k_is)
    (case c15 => k_is)
    (case k15 => k_is)
    (case r1 => k_is)
    (case r2 => k_is)
    (case r3 => k_is)
    (case e6 => k_is)
    (case e7 => k_is)
    (case x_BadText => k_exc)
    (case kp_BadText => k_is)
    (case sb_BadText => k_is)
    (case tp_BadText => k_is)
    (case e1_BadText => k_is)
    (case e2_BadText => k_is)
    (case e4_BadText => k_is)
    (case e5_BadText => k_is)
    (case e8_BadText => k_is)
    (case r4_BadText => k_is)
    (case kv_BadText => kit_is)
    (case q_BadText_BadPlaces => kit_is)
    (case q_BadText_BadText => kit_is)
    (case q_BadText_BadValue => kit_is)
    (case q_BadText_Full => kit_is)
    (case q_BadText_IsOut => kit_is)
    (case q_BadText_NoParcel => kit_is)
    (case q_BadText_NoYard => kit_is)
    (case q_BadText_NotOut => kit_is)
    (case z_isinstance => k_is)
    (case z_int => k_is)
    (case z_bool => k_is)
    (case z_len => k_is)
    (case z_range => k_is)
    (case z_tuple => k_is)
    (case z_sorted => k_is)
    (case z_set => k_is)
    (case z_all => k_is)
    (case z_str => k_is)
    (case z_ValueError => k_is)
    (case z_list => k_is)
