import PyProof.Rows.All
import Wide.All
import OpenK.AllK
import Wide.FinOn
import HandS.ForMost
import HandS.Evl
import HandS.Walk
import HandS.SortRule
import HandS.SortInts
import HandS.Strs
import HandS.Flow
import HandS.Zip
import HandS.IsInst
import HandS.Style
import HandS.TupAny
import HandS.Wide
import HandS.WideBits
import HandS.SetFor
import KE.GoesNew
import PyProof.Rows.SetFrom
import KE.DataMinMax
import KE.SortData
import HandS.SortKw
import HandS.ForExc
import HandS.ExcIs
import HandS.ExcValue
import HandS.WordsExc
import HandS.Replace
import HandS.StrMore
import HandS.Conv
import HandS.More
import HandS.SetKeys
import HandS.NoneIn
import PyProof.Rows.StrInSeq3
import PyProof.EqKinds
import PyProof.FactsAll.dict_1
import HandS.Deep
import HandS.CallSlots
import PySem.Challenge.RW_gatewright_k11_groups_refused_then_good
set_option Elab.async false
set_option linter.all false
set_option maxRecDepth 100000
namespace Pu
open PySem PySem.Spec PyProof.Rows L2

abbrev Fg := PySem.W.Frag
/-- heap growth, heap growth as far as tuples go -/
def Gx (H H' : Hp) : Prop := forall a o, H a = some o -> H' a = some o
def Tx (H H' : Hp) : Prop := forall a xs, H a = some (.tup xs) -> H' a = some (.tup xs)
theorem Gx.rfl {H : Hp} : Gx H H := fun _ _ h => h
theorem Gx.trans {H H1 H2 : Hp} (a : Gx H H1) (b : Gx H1 H2) : Gx H H2 := fun x o h => b x o (a x o h)
theorem Gx.tx {H H' : Hp} (e : Gx H H') : Tx H H' := fun a xs h => e a _ h
theorem Gx.new {H : Hp} {p : Addr} {o : HO} (h : H p = none) : Gx H (upd H p o) := fun a u e => by
  rw [upd_ne (ne_of_none e h)]
  exact e
theorem Gx.back {H H' : Hp} {p : Addr} (e : Gx H H') (h : H' p = none) : H p = none := by
  cases q : H p with
  | none => rfl
  | some o => have z := e p o q; rw [h] at z; cases z
theorem Gx.mut {H H' : Hp} {p : Addr} {o : HO} (e : Gx H H') (h : H p = none) : Gx H (upd H' p o) := fun a u q => by
  rw [upd_ne (ne_of_none q h)]
  exact e a u q
theorem Gx.rd {H H' : Hp} {a : Addr} {u : HO} (e : Gx H H') (h : Rd H a u) : Rd H' a u := h.elim (fun z => .inl (e _ _ z)) fun ⟨o, z⟩ => .inr ⟨o, e _ _ z⟩
theorem Gx.l {K : Fg} {H H' : Hp} {a : Addr} {xs : List V} (e : Gx H H') (h : SqL K H a xs) : SqL K H' a xs := h.elim (fun z => .inl (e.rd z)) .inr
theorem Tx.mut {H : Hp} {p : Addr} {o : HO} (h : forall xs, H p ≠ some (.tup xs)) : Tx H (upd H p o) := fun a xs q => by
  rw [upd_ne (fun z => h xs (by rw [← z]; exact q))]
  exact q
theorem Tx.trans {H H1 H2 : Hp} (a : Tx H H1) (b : Tx H1 H2) : Tx H H2 := fun x o h => b x o (a x o h)

/-- how a value stands for a thing of mine -/
class Rp (A : Type) where
  rp : Fg -> Hp -> V -> A -> Prop
  mono : forall {K : Fg} {H H' : Hp} {v : V} {x : A}, Gx H H' -> rp K H v x -> rp K H' v x
/-- .. that leans on tuples alone -/
class Im (A : Type) [Rp A] : Prop where
  im : forall {K : Fg} {H H' : Hp} {v : V} {x : A}, Tx H H' -> Rp.rp K H v x -> Rp.rp K H' v x
open Rp (rp)
def Al {A : Type} (F : V -> A -> Prop) : List V -> List A -> Prop
  | [], [] => True
  | v :: vs, x :: xs => F v x ∧ Al F vs xs
  | _, _ => False
theorem Al.mono {A : Type} {F G : V -> A -> Prop} (h : forall v x, F v x -> G v x) : forall {vs : List V} {xs : List A}, Al F vs xs -> Al G vs xs
  | [], [], _ => trivial
  | _ :: _, _ :: _, q => ⟨h _ _ q.1, Al.mono h q.2⟩
  | [], _ :: _, q => q.elim
  | _ :: _, [], q => q.elim
theorem Al.len {A : Type} {F : V -> A -> Prop} : forall {vs : List V} {xs : List A}, Al F vs xs -> vs.length = xs.length
  | [], [], _ => rfl
  | _ :: _, _ :: _, q => by simp only [List.length_cons, Al.len q.2]
  | [], _ :: _, q => q.elim
  | _ :: _, [], q => q.elim
theorem Al.get {A : Type} {F : V -> A -> Prop} : forall {vs : List V} {xs : List A} {i : Nat} {x : A}, Al F vs xs -> xs[i]? = some x -> exists v, vs[i]? = some v ∧ F v x
  | [], [], _, _, _, h => by simp at h
  | v :: _, y :: _, 0, x, q, h => by
    have e : y = x := by simpa using h
    exact ⟨v, by simp, e ▸ q.1⟩
  | _ :: _, _ :: _, i + 1, x, q, h => by
    obtain ⟨v, h1, h2⟩ := Al.get (i := i) q.2 (by simpa using h)
    exact ⟨v, by simpa using h1, h2⟩
  | [], _ :: _, _, _, q, _ => q.elim
  | _ :: _, [], _, _, q, _ => q.elim
theorem Al.getV {A : Type} {F : V -> A -> Prop} : forall {vs : List V} {xs : List A} {i : Nat} {v : V}, Al F vs xs -> vs[i]? = some v -> exists x, xs[i]? = some x ∧ F v x
  | [], [], _, _, _, h => by simp at h
  | v :: _, y :: _, 0, x, q, h => by
    have e : v = x := by simpa using h
    exact ⟨y, by simp, e ▸ q.1⟩
  | _ :: _, _ :: _, i + 1, x, q, h => by
    obtain ⟨v, h1, h2⟩ := Al.getV (i := i) q.2 (by simpa using h)
    exact ⟨v, by simpa using h1, h2⟩
  | [], _ :: _, _, _, q, _ => q.elim
  | _ :: _, [], _, _, q, _ => q.elim
theorem Al.app {A : Type} {F : V -> A -> Prop} : forall {vs ws : List V} {xs ys : List A}, Al F vs xs -> Al F ws ys -> Al F (vs ++ ws) (xs ++ ys)
  | [], _, [], _, _, r => r
  | _ :: _, _, _ :: _, _, q, r => ⟨q.1, Al.app q.2 r⟩
  | [], _, _ :: _, _, q, _ => q.elim
  | _ :: _, _, [], _, q, _ => q.elim
theorem Al.one {A : Type} {F : V -> A -> Prop} {v : V} {x : A} (h : F v x) : Al F [v] [x] := ⟨h, trivial⟩
theorem Al.drop {A : Type} {F : V -> A -> Prop} : forall (n : Nat) {vs : List V} {xs : List A}, Al F vs xs -> Al F (vs.drop n) (xs.drop n)
  | 0, _, _, q => q
  | _ + 1, [], [], q => q
  | n + 1, _ :: _, _ :: _, q => Al.drop n q.2
  | _ + 1, [], _ :: _, q => q.elim
  | _ + 1, _ :: _, [], q => q.elim
theorem Al.take {A : Type} {F : V -> A -> Prop} : forall (n : Nat) {vs : List V} {xs : List A}, Al F vs xs -> Al F (vs.take n) (xs.take n)
  | 0, _, _, q => trivial
  | _ + 1, [], [], q => q
  | n + 1, _ :: _, _ :: _, q => ⟨q.1, Al.take n q.2⟩
  | _ + 1, [], _ :: _, q => q.elim
  | _ + 1, _ :: _, [], q => q.elim
theorem Al.set {A : Type} {F : V -> A -> Prop} {v : V} {x : A} (h : F v x) : forall (n : Nat) {vs : List V} {xs : List A}, Al F vs xs -> Al F (vs.set n v) (xs.set n x)
  | 0, [], [], q => q
  | 0, _ :: _, _ :: _, q => ⟨h, q.2⟩
  | _ + 1, [], [], q => q
  | n + 1, _ :: _, _ :: _, q => ⟨q.1, Al.set h n q.2⟩
  | 0, [], _ :: _, q => q.elim
  | 0, _ :: _, [], q => q.elim
  | _ + 1, [], _ :: _, q => q.elim
  | _ + 1, _ :: _, [], q => q.elim
theorem Al.rev {A : Type} {F : V -> A -> Prop} : forall {vs : List V} {xs : List A}, Al F vs xs -> Al F vs.reverse xs.reverse
  | [], [], q => q
  | v :: vs, x :: xs, q => by
    rw [List.reverse_cons, List.reverse_cons]
    exact Al.app (Al.rev q.2) (Al.one q.1)
  | [], _ :: _, q => q.elim
  | _ :: _, [], q => q.elim

instance : Rp Int := ⟨fun _ _ v x => v = .int x, fun _ h => h⟩
instance : Im Int := ⟨fun _ h => h⟩
instance : Rp Bool := ⟨fun _ _ v x => v = .bl x, fun _ h => h⟩
instance : Im Bool := ⟨fun _ h => h⟩
instance : Rp Str := ⟨fun _ _ v x => v = .str x, fun _ h => h⟩
instance : Im Str := ⟨fun _ h => h⟩
instance : Rp Unit := ⟨fun _ _ v _ => v = .non, fun _ h => h⟩
instance : Im Unit := ⟨fun _ h => h⟩
instance {A B : Type} [Rp A] [Rp B] : Rp (A × B) where
  rp K H v x := exists a u w, v = .ref a ∧ H a = some (.tup [u, w]) ∧ rp K H u x.1 ∧ rp K H w x.2
  mono e := fun ⟨a, u, w, h1, h2, h3, h4⟩ => ⟨a, u, w, h1, e _ _ h2, Rp.mono e h3, Rp.mono e h4⟩
instance {A B : Type} [Rp A] [Rp B] [Im A] [Im B] : Im (A × B) where
  im e := fun ⟨a, u, w, h1, h2, h3, h4⟩ => ⟨a, u, w, h1, e _ _ h2, Im.im e h3, Im.im e h4⟩
/-- three in a tuple -/
structure T3 (A B C : Type) where
  a : A
  b : B
  c : C
instance {A B C : Type} [Rp A] [Rp B] [Rp C] : Rp (T3 A B C) where
  rp K H v x := exists a u w z, v = .ref a ∧ H a = some (.tup [u, w, z]) ∧ rp K H u x.a ∧ rp K H w x.b ∧ rp K H z x.c
  mono e := fun ⟨a, u, w, z, h1, h2, h3, h4, h5⟩ => ⟨a, u, w, z, h1, e _ _ h2, Rp.mono e h3, Rp.mono e h4, Rp.mono e h5⟩
instance {A B C : Type} [Rp A] [Rp B] [Rp C] [Im A] [Im B] [Im C] : Im (T3 A B C) where
  im e := fun ⟨a, u, w, z, h1, h2, h3, h4, h5⟩ => ⟨a, u, w, z, h1, e _ _ h2, Im.im e h3, Im.im e h4, Im.im e h5⟩
/-- a tuple of as many as there are -/
structure Tl (A : Type) where
  l : List A
  deriving DecidableEq
instance {A : Type} [Rp A] : Rp (Tl A) where
  rp K H v x := exists a vs, v = .ref a ∧ H a = some (.tup vs) ∧ Al (rp K H) vs x.l
  mono e := fun ⟨a, vs, h1, h2, h3⟩ => ⟨a, vs, h1, e _ _ h2, h3.mono fun _ _ => Rp.mono e⟩
instance {A : Type} [Rp A] [Im A] : Im (Tl A) where
  im e := fun ⟨a, vs, h1, h2, h3⟩ => ⟨a, vs, h1, e _ _ h2, h3.mono fun _ _ => Im.im e⟩
/-- a list -/
instance {A : Type} [Rp A] : Rp (List A) where
  rp K H v x := exists a vs, v = .ref a ∧ H a = some (.lst vs) ∧ Al (rp K H) vs x
  mono e := fun ⟨a, vs, h1, h2, h3⟩ => ⟨a, vs, h1, e _ _ h2, h3.mono fun _ _ => Rp.mono e⟩
/-- the script -/
structure Scr where
  l : List Int
instance : Rp Scr where
  rp K H v x := exists a, v = .ref a ∧ SqL K H a (x.l.map V.int)
  mono e := fun ⟨a, h1, h2⟩ => ⟨a, h1, e.l h2⟩
/-- a list or a tuple -/
def SqE (K : Fg) (H : Hp) (a : Addr) (vs : List V) : Prop := SqL K H a vs ∨ SqT K H a vs

theorem al_int {K : Fg} {H : Hp} : forall {vs : List V} {xs : List Int}, Al (rp K H) vs xs -> vs = xs.map V.int
  | [], [], _ => rfl
  | v :: vs, x :: xs, q => by
    have e : v = .int x := q.1
    rw [List.map_cons, ← al_int q.2, e]
  | [], _ :: _, q => q.elim
  | _ :: _, [], q => q.elim
theorem int_al {K : Fg} {H : Hp} : forall (xs : List Int), Al (rp K H) (xs.map V.int) xs
  | [] => trivial
  | _ :: xs => ⟨rfl, int_al xs⟩
theorem al_bl {K : Fg} {H : Hp} : forall {vs : List V} {xs : List Bool}, Al (rp K H) vs xs -> vs = xs.map V.bl
  | [], [], _ => rfl
  | v :: vs, x :: xs, q => by
    have e : v = .bl x := q.1
    rw [List.map_cons, ← al_bl q.2, e]
  | [], _ :: _, q => q.elim
  | _ :: _, [], q => q.elim

/-! the ledger: what may still change -/
abbrev Led := List (Addr × HO)
def Mu : HO -> Prop
  | .lst _ => True
  | .dK _ => True
  | .ext _ => True
  | _ => False
structure At (G H : Hp) (L : Led) : Prop where
  ex : Gx G H
  nd : (L.map (·.1)).Nodup
  led : forall p, p ∈ L -> H p.1 = some p.2 ∧ G p.1 = none ∧ Mu p.2
theorem At.nil (H : Hp) : At H H [] := ⟨Gx.rfl, List.nodup_nil, fun _ h => nomatch h⟩
theorem At.grow {G H H' : Hp} {L : Led} (A : At G H L) (e : Gx H H') : At G H' L := ⟨A.ex.trans e, A.nd, fun p h => let ⟨a, b, c⟩ := A.led p h; ⟨e _ _ a, b, c⟩⟩
def hid (H : Hp) (L : Led) : Hp := fun b => if b ∈ L.map (·.1) then none else H b
theorem hid_in {H : Hp} {L : Led} {b : Addr} (h : b ∈ L.map (·.1)) : hid H L b = none := if_pos h
theorem hid_out {H : Hp} {L : Led} {b : Addr} (h : b ∉ L.map (·.1)) : hid H L b = H b := if_neg h
theorem At.hid {G H : Hp} {L : Led} (A : At G H L) : At (hid H L) H L :=
  ⟨fun a o h => by
    by_cases q : a ∈ L.map (·.1)
    · rw [hid_in q] at h; cases h
    · rw [hid_out q] at h; exact h, A.nd,
   fun p h => ⟨(A.led p h).1, hid_in (List.mem_map_of_mem h), (A.led p h).2.2⟩⟩
theorem At.gh {G H : Hp} {L : Led} (A : At G H L) : Gx G (Pu.hid H L) := fun a o h => by
  have q : a ∉ L.map (·.1) := fun z => by
    obtain ⟨p, hp, e⟩ := List.mem_map.mp z
    rw [← e, (A.led p hp).2.1] at h; cases h
  rw [hid_out q]
  exact A.ex a o h
theorem At.tx {G H : Hp} {L : Led} (A : At G H L) : Tx H (Pu.hid H L) := fun a xs h => by
  have q : a ∉ L.map (·.1) := fun z => by
    obtain ⟨p, hp, e⟩ := List.mem_map.mp z
    obtain ⟨h1, _, h3⟩ := A.led p hp
    rw [e, h] at h1
    rw [← Option.some.inj h1] at h3
    exact h3
  rw [hid_out q]
  exact h
end Pu

set_option Elab.async false
set_option linter.all false
set_option maxRecDepth 100000
namespace Pu
open Pu.Rp (rp)
open PySem PySem.Spec PyProof.Rows L2

def o1 {A C : Type} (f : A -> Option C) (ma : Option A) : Option C := ma.bind f
def o2 {A B C : Type} (f : A -> B -> Option C) (ma : Option A) (mb : Option B) : Option C := ma.bind fun a => mb.bind fun b => f a b
theorem o1s {A C : Type} {f : A -> Option C} {ma : Option A} {c : C} (h : o1 f ma = some c) : exists a, ma = some a ∧ f a = some c := by
  cases ma with
  | none => cases h
  | some a => exact ⟨a, rfl, h⟩
theorem o2s {A B C : Type} {f : A -> B -> Option C} {ma : Option A} {mb : Option B} {c : C} (h : o2 f ma mb = some c) : exists a b, ma = some a ∧ mb = some b ∧ f a b = some c := by
  cases ma with
  | none => cases h
  | some a => cases mb with
    | none => cases h
    | some b => exact ⟨a, b, rfl, rfl, h⟩

/-! what a reading comes to: read (EvB), made (EvO); m none: nothing is said -/
section
variable {K : Fg} {A B C D : Type} [Rp A] [Rp B] [Rp C] [Rp D]
def EvB (K : Fg) (te : TE) (σ : L2.St) (H : Hp) (m : Option A) : Prop :=
  forall x, m = some x -> forall H1, Gx H H1 -> forall Q : VK, (forall v H2, Gx H1 H2 -> rp K H2 v x -> Q v H2) -> te σ H1 Q
def EvO (K : Fg) (te : TE) (σ : L2.St) (G H : Hp) (m : Option A) : Prop :=
  forall x, m = some x -> forall G1 H1 L, Gx G G1 -> Gx H H1 -> At G1 H1 L -> forall Q : VK, (forall v G2 H2, Gx G1 G2 -> Gx H1 H2 -> At G2 H2 L -> rp K G2 v x -> Q v H2) -> te σ H1 Q
def EvT (tt : TT) (σ : L2.St) (H : Hp) (m : Option Bool) : Prop :=
  forall b, m = some b -> forall H1, Gx H H1 -> forall Q : Bool -> Hp -> Prop, (forall H2, Gx H1 H2 -> Q b H2) -> tt σ H1 Q
variable {σ : L2.St} {G G' H H' : Hp} {L : Led} {te ta tb tc : TE} {tt tu : TT}
theorem EvB.mono {m : Option A} (h : EvB K te σ H m) (e : Gx H H') : EvB K te σ H' m := fun x hx H1 e1 Q q => h x hx H1 (e.trans e1) Q q
theorem EvT.mono {m : Option Bool} (h : EvT tt σ H m) (e : Gx H H') : EvT tt σ H' m := fun x hx H1 e1 Q q => h x hx H1 (e.trans e1) Q q
theorem EvO.mono {m : Option A} (h : EvO K te σ G H m) (g : Gx G G') (e : Gx H H') : EvO K te σ G' H' m := fun x hx G1 H1 L g1 e1 a Q q => h x hx G1 H1 L (g.trans g1) (e.trans e1) a Q q
/-- what leans on tuples alone is one's own -/
theorem EvB.own [Im A] {m : Option A} (h : EvB K te σ H m) : EvO K te σ G H m := fun x hx G1 H1 L g1 e1 a Q q =>
  h x hx H1 e1 Q fun v H2 e2 r => q v (hid H2 L) H2 (a.grow e2).gh e2 (a.grow e2).hid (Im.im (a.grow e2).tx r)
theorem EvO.bor {m : Option A} (h : EvO K te σ G H m) (a : At G H L) : EvB K te σ H m := fun x hx H1 e1 Q q =>
  h x hx G H1 L Gx.rfl e1 (a.grow e1) Q fun v G2 H2 _ e2 a2 r => q v H2 e2 (Rp.mono a2.ex r)
theorem EvB.eq {m m' : Option A} (h : EvB K te σ H m) (e : m = m') : EvB K te σ H m' := e ▸ h
theorem EvO.eq {m m' : Option A} (h : EvO K te σ G H m) (e : m = m') : EvO K te σ G H m' := e ▸ h

/-- a new list -/
def EvN (K : Fg) (te : TE) (σ : L2.St) (H : Hp) (m : Option (List A)) : Prop :=
  forall xs, m = some xs -> forall H1, Gx H H1 -> forall Q : VK, (forall p vs H2, H1 p = none -> Gx H1 H2 -> H2 p = some (.lst vs) -> Al (rp K H2) vs xs -> Q (.ref p) H2) -> te σ H1 Q
theorem EvN.mono {m : Option (List A)} (h : EvN K te σ H m) (e : Gx H H') : EvN K te σ H' m := fun x hx H1 e1 Q q => h x hx H1 (e.trans e1) Q q
theorem EvN.b {m : Option (List A)} (h : EvN K te σ H m) : EvB K te σ H m := fun x hx H1 e Q q => h x hx H1 e Q fun p vs H2 hn g h2 r => q (.ref p) H2 g ⟨p, vs, rfl, h2, r⟩
theorem At.fresh {G H : Hp} {L : Led} {p : Addr} (a : At G H L) (hp : H p = none) : p ∉ L.map (·.1) := fun z => by
  obtain ⟨o, ho, e5⟩ := List.mem_map.mp z
  have := (a.led o ho).1
  rw [e5, hp] at this
  cases this
theorem EvN.own [Im A] {m : Option (List A)} (h : EvN K te σ H m) : EvO K te σ G H m := fun x hx G1 H1 L g1 e1 a Q q =>
  h x hx H1 e1 Q fun p vs H2 hn g h2 r => q (.ref p) (hid H2 L) H2 (a.grow g).gh g (a.grow g).hid ⟨p, vs, rfl, (hid_out (a.fresh hn)).trans h2, r.mono fun _ _ => Im.im (a.grow g).tx⟩

/-! names, constants -/
theorem eb_v {i : Nat} {v : V} {x : A} (h : σ[i]? = some (some v)) (r : rp K H v x) : EvB K (tVar i) σ H (some x) := fun y hy H1 e Q q => by
  cases hy
  exact ⟨v, h, q v H1 Gx.rfl (Rp.mono e r)⟩
theorem eo_v {i : Nat} {v : V} {x : A} (h : σ[i]? = some (some v)) (r : rp K G v x) : EvO K (tVar i) σ G H (some x) := fun y hy G1 H1 L g e a Q q => by
  cases hy
  exact ⟨v, h, q v G1 H1 Gx.rfl Gx.rfl a (Rp.mono g r)⟩
theorem eb_c {v : V} {x : A} (r : forall H, rp K H v x) : EvB K (tC v) σ H (some x) := fun y hy H1 e Q q => by
  cases hy
  exact q v H1 Gx.rfl (r _)
theorem eb_int {i : Int} : EvB K (tC (.int i)) σ H (some i) := eb_c fun _ => rfl
theorem eb_bl {i : Bool} : EvB K (tC (.bl i)) σ H (some i) := eb_c fun _ => rfl
theorem eb_str {i : Str} : EvB K (tC (.str i)) σ H (some i) := eb_c fun _ => rfl
theorem eb_non : EvB K (tC .non) σ H (some ()) := eb_c fun _ => rfl

/-! operators by values -/
def RB (K : Fg) (r : R2) (f : A -> B -> Option C) : Prop := forall H x y a b c, rp K H x a -> rp K H y b -> f a b = some c -> forall Q : VK, (forall v H2, Gx H H2 -> rp K H2 v c -> Q v H2) -> r x y H Q
def RB1 (K : Fg) (r : V -> Hp -> VK -> Prop) (f : A -> Option C) : Prop := forall H x a c, rp K H x a -> f a = some c -> forall Q : VK, (forall v H2, Gx H H2 -> rp K H2 v c -> Q v H2) -> r x H Q
theorem eb_op {r : R2} {f : A -> B -> Option C} {ma : Option A} {mb : Option B} (hr : RB K r f) (ha : EvB K ta σ H ma) (hb : EvB K tb σ H mb) : EvB K (tOp r ta tb) σ H (o2 f ma mb) := fun x hx H1 e Q q => by
  obtain ⟨a, b, e1, e2, e3⟩ := o2s hx
  exact ha a e1 H1 e _ fun v H2 g2 r2 => hb b e2 H2 (e.trans g2) _ fun w H3 g3 r3 => hr H3 v w a b x (Rp.mono g3 r2) r3 e3 Q fun z H4 g4 r4 => q z H4 ((g2.trans g3).trans g4) r4
theorem eb_un {r : V -> Hp -> VK -> Prop} {f : A -> Option C} {ma : Option A} (hr : RB1 K r f) (ha : EvB K ta σ H ma) : EvB K (tUn r ta) σ H (o1 f ma) := fun x hx H1 e Q q => by
  obtain ⟨a, e1, e3⟩ := o1s hx
  exact ha a e1 H1 e _ fun v H2 g2 r2 => hr H2 v a x r2 e3 Q fun z H4 g4 r4 => q z H4 (g2.trans g4) r4
theorem rb_I0 {g : Int -> Int -> V} {f : Int -> Int -> C} (h : forall H i j, rp K H (g i j) (f i j)) : RB K (rI0 g) (fun i j => some (f i j)) := fun H x y a b c ra rb hc Q q => by
  cases hc
  exact ⟨a, b, ra, rb, q _ H Gx.rfl (h _ _ _)⟩
theorem rb_I {P : Int -> Int -> Prop} [forall i j, Decidable (P i j)] {R : Int -> Int -> Prop} {g : Int -> Int -> V} {f : Int -> Int -> C} (hP : forall i j, P i j -> R i j) (h : forall H i j, P i j -> rp K H (g i j) (f i j)) : RB K (rI R g) (fun i j => if P i j then some (f i j) else none) := fun H x y a b c ra rb hc Q q => by
  by_cases p : P a b
  · simp only [if_pos p] at hc
    cases hc
    exact ⟨a, b, ra, rb, hP _ _ p, q _ H Gx.rfl (h _ _ _ p)⟩
  · simp only [if_neg p] at hc; cases hc
theorem rb_add : RB (A := Int) (B := Int) (C := Int) K (rI0 fun i j => .int (i + j)) (fun i j => some (i + j)) := rb_I0 fun _ _ _ => rfl
theorem rb_sub : RB (A := Int) (B := Int) (C := Int) K (rI0 fun i j => .int (i - j)) (fun i j => some (i - j)) := rb_I0 fun _ _ _ => rfl
theorem rb_lt : RB (A := Int) (B := Int) (C := Bool) K (rI0 fun i j => .bl (decide (i < j))) (fun i j => some (decide (i < j))) := rb_I0 fun _ _ _ => rfl
theorem rb_le : RB (A := Int) (B := Int) (C := Bool) K (rI0 fun i j => .bl (decide (i ≤ j))) (fun i j => some (decide (i ≤ j))) := rb_I0 fun _ _ _ => rfl
theorem rb_gt : RB (A := Int) (B := Int) (C := Bool) K (rI0 fun i j => .bl (decide (j < i))) (fun i j => some (decide (j < i))) := rb_I0 fun _ _ _ => rfl
theorem rb_ge : RB (A := Int) (B := Int) (C := Bool) K (rI0 fun i j => .bl (decide (j ≤ i))) (fun i j => some (decide (j ≤ i))) := rb_I0 fun _ _ _ => rfl
/-- one side within 2 ^ 64 -/
def mulOk (i j : Int) : Bool := (decide (-(2 ^ 64) < i) && decide (i < 2 ^ 64)) || (decide (-(2 ^ 64) < j) && decide (j < 2 ^ 64))
theorem rb_mul : RB (A := Int) (B := Int) (C := Int) K (rI CMul fun i j => .int (i * j)) (fun i j => if mulOk i j = true then some (i * j) else none) :=
  rb_I (fun i j h => by
    unfold mulOk at h
    simp only [Bool.or_eq_true, Bool.and_eq_true, decide_eq_true_eq] at h
    exact h) fun _ _ _ _ => rfl
end
end Pu

set_option Elab.async false
set_option linter.all false
set_option maxRecDepth 100000
namespace Pu
open Pu.Rp (rp)
open PySem PySem.Spec PyProof.Rows L2
section
variable {K : Fg} {A B C D : Type} [Rp A] [Rp B] [Rp C] [Rp D]
variable {σ : L2.St} {G G' H H' : Hp} {L : Led} {te ta tb tc : TE} {tt tu : TT}
theorem rb_fdiv : RB (A := Int) (B := Int) (C := Int) K (rI CDiv fun i j => .int (i / j)) (fun i j => if 0 < j ∧ j < 1073741824 then some (i / j) else none) :=
  rb_I (fun i j h => h) fun _ _ _ _ => rfl
theorem rb_mod : RB (A := Int) (B := Int) (C := Int) K (rI (fun _ j => 0 < j) fun i j => .int (i % j)) (fun i j => if 0 < j then some (i % j) else none) :=
  rb_I (fun i j h => h) fun _ _ _ _ => rfl
def powOk (i j : Int) : Bool := decide (0 ≤ j) && decide (j ≤ 1000000) && decide (i.natAbs < 18446744073709551616)
theorem rb_pow : RB (A := Int) (B := Int) (C := Int) K (rI CPow fun i j => .int (i ^ j.toNat)) (fun i j => if powOk i j = true then some (i ^ j.toNat) else none) :=
  rb_I (fun i j h => by
    unfold powOk at h
    simp only [Bool.and_eq_true, decide_eq_true_eq] at h
    exact ⟨h.1.1, h.1.2, h.2⟩) fun _ _ _ _ => rfl
theorem rb_neg : RB1 (A := Int) (C := Int) K (rU fun i => .int (-i)) (fun i => some (-i)) := fun H x a c ra hc Q q => by
  cases hc
  exact ⟨a, ra, q _ H Gx.rfl rfl⟩

/-! == -/
class Eqd (A : Type) [Rp A] [DecidableEq A] where
  enc : A -> PyData
  dp : forall {K : Fg} {H : Hp} {v : V} {x : A}, rp K H v x -> Dp K H v (enc x)
  lay : forall x : A, (enc x).canLay0 = true
  dep : Nat
  deep : forall x : A, (enc x).depth ≤ dep
  eqv : forall x y : A, PyData.eqv (enc x) (enc y) = decide (x = y)
instance : Eqd Int where
  enc := .int
  dp h := by cases h; exact .int _
  lay _ := by simp [PyData.canLay0]
  dep := 0
  deep _ := by simp [PyData.depth]
  eqv x y := by
    rw [PyData.eqv]
    by_cases h : x = y <;> simp [h]
instance : Eqd Bool where
  enc := .bool
  dp h := by cases h; exact .bl _
  lay _ := by simp [PyData.canLay0]
  dep := 0
  deep _ := by simp [PyData.depth]
  eqv x y := by
    rw [PyData.eqv]
    cases x <;> cases y <;> rfl
instance : Eqd Unit where
  enc _ := .none
  dp h := by cases h; exact .non
  lay _ := by simp [PyData.canLay0]
  dep := 0
  deep _ := by simp [PyData.depth]
  eqv x y := by
    rw [PyData.eqv]
    cases x; cases y; rfl
section
variable [DecidableEq A] [DecidableEq B] [Eqd A] [Eqd B]
instance : Eqd (A × B) where
  enc x := .tuple [Eqd.enc x.1, Eqd.enc x.2]
  dp h := by
    obtain ⟨a, u, w, rfl, h2, h3, h4⟩ := h
    exact .tup (SqT.of h2) (.cons (Eqd.dp h3) (.cons (Eqd.dp h4) .nil))
  lay x := by simp [PyData.canLay0, PyData.canLayAll0, Eqd.lay]
  dep := max (Eqd.dep A) (Eqd.dep B) + 1
  deep x := by
    have h1 := Eqd.deep x.1
    have h2 := Eqd.deep x.2
    simp only [PyData.depth, PyData.depthAll]
    omega
  eqv x y := by
    rw [PyData.eqv, PyData.eqvAll, PyData.eqvAll, PyData.eqvAll, Eqd.eqv, Eqd.eqv, Bool.and_true]
    cases x; cases y
    simp
theorem al_dp {K : Fg} {H : Hp} : forall {vs : List V} {xs : List A}, Al (rp K H) vs xs -> DpAll K H vs (xs.map Eqd.enc)
  | [], [], _ => .nil
  | _ :: _, _ :: _, q => .cons (Eqd.dp q.1) (al_dp q.2)
  | [], _ :: _, q => q.elim
  | _ :: _, [], q => q.elim
theorem lay_all : forall xs : List A, PyData.canLayAll0 (xs.map Eqd.enc) = true
  | [] => by simp [PyData.canLayAll0]
  | x :: xs => by
    have ih := lay_all xs
    simp [PyData.canLayAll0, Eqd.lay, ih]
theorem deep_all : forall xs : List A, PyData.depthAll (xs.map Eqd.enc) ≤ Eqd.dep A
  | [] => by simp [PyData.depthAll]
  | x :: xs => by
    have ih := deep_all xs
    have h := Eqd.deep x
    simp only [List.map_cons, PyData.depthAll]
    omega
theorem eqv_all : forall xs ys : List A, PyData.eqvAll (xs.map Eqd.enc) (ys.map Eqd.enc) = decide (xs = ys)
  | [], [] => by simp [PyData.eqvAll]
  | [], _ :: _ => by simp [PyData.eqvAll]
  | _ :: _, [] => by simp [PyData.eqvAll]
  | x :: xs, y :: ys => by
    have ih := eqv_all xs ys
    rw [List.map_cons, List.map_cons, PyData.eqvAll, Eqd.eqv, ih]
    simp
instance : Eqd (List A) where
  enc x := .list (x.map Eqd.enc)
  dp h := by
    obtain ⟨a, vs, rfl, h2, h3⟩ := h
    exact .lst (SqL.of h2) (al_dp h3)
  lay x := by
    rw [PyData.canLay0]
    exact lay_all x
  dep := Eqd.dep A + 1
  deep x := by
    have h := deep_all x
    simp only [PyData.depth]
    omega
  eqv x y := by
    rw [PyData.eqv]
    exact eqv_all x y
instance : Eqd (Tl A) where
  enc x := .tuple (x.l.map Eqd.enc)
  dp h := by
    obtain ⟨a, vs, rfl, h2, h3⟩ := h
    exact .tup (SqT.of h2) (al_dp h3)
  lay x := by
    rw [PyData.canLay0]
    exact lay_all x.l
  dep := Eqd.dep A + 1
  deep x := by
    have h := deep_all x.l
    simp only [PyData.depth]
    omega
  eqv x y := by
    rw [PyData.eqv, eqv_all]
    cases x; cases y
    simp
theorem shaped_enc (h : Eqd.dep A ≤ 64) (x : A) : SeqAt.shaped (Eqd.enc x) = true := by
  unfold SeqAt.shaped
  rw [Eqd.lay, Bool.true_and]
  exact decide_eq_true (Nat.le_trans (Eqd.deep x) h)
theorem rb_eq (h : Eqd.dep A ≤ 64 := by decide) : RB (A := A) (B := A) (C := Bool) K (rEqD K) (fun a b => some (decide (a = b))) := fun H x y a b c ra rb hc Q q => by
  cases hc
  refine ⟨_, _, Eqd.dp ra, Eqd.dp rb, shaped_enc h a, shaped_enc h b, ?_⟩
  rw [Eqd.eqv]
  exact q _ H Gx.rfl rfl
theorem rb_ne (h : Eqd.dep A ≤ 64 := by decide) : RB (A := A) (B := A) (C := Bool) K (rNeD K) (fun a b => some (!decide (a = b))) := fun H x y a b c ra rb hc Q q => by
  cases hc
  refine ⟨_, _, Eqd.dp ra, Eqd.dp rb, shaped_enc h a, shaped_enc h b, ?_⟩
  rw [Eqd.eqv]
  exact q _ H Gx.rfl rfl
end

/-! items, slices -/
def ix {A : Type} (xs : List A) (i : Int) : Option A := atI xs i
theorem ixN_lt {n : Nat} {i : Int} {j : Nat} (h : ixN n i = some j) : j < n := by
  unfold ixN at h
  split at h
  · split at h
    · cases h; omega
    · cases h
  · split at h
    · cases h; omega
    · cases h
theorem al_at {A : Type} {F : V -> A -> Prop} {vs : List V} {xs : List A} {i : Int} {x : A} (q : Al F vs xs) (h : ix xs i = some x) : exists v, atI vs i = some v ∧ F v x := by
  unfold ix atI at h
  cases e : ixN xs.length i with
  | none => rw [e] at h; cases h
  | some j =>
    rw [e] at h
    obtain ⟨v, h1, h2⟩ := q.get (i := j) h
    refine ⟨v, ?_, h2⟩
    unfold atI
    rw [q.len, e]
    exact h1
theorem rb_ixL : RB (A := List A) (B := Int) (C := A) K (rIxL K) ix := fun H x y a b c ra rb hc Q q => by
  obtain ⟨p, vs, rfl, h2, h3⟩ := ra
  obtain ⟨v, h4, h5⟩ := al_at h3 hc
  exact ⟨p, vs, b, v, rfl, rb, SqL.of h2, h4, q v H Gx.rfl h5⟩
theorem rb_ixT : RB (A := Tl A) (B := Int) (C := A) K (rIxT K) (fun a b => ix a.l b) := fun H x y a b c ra rb hc Q q => by
  obtain ⟨p, vs, rfl, h2, h3⟩ := ra
  obtain ⟨v, h4, h5⟩ := al_at h3 hc
  exact ⟨p, vs, b, v, rfl, rb, SqT.of h2, h4, q v H Gx.rfl h5⟩
/-- p[0], p[1] of a pair -/
theorem eb_fst {ma : Option (A × B)} {i : Int} (hi : i = 0) (ha : EvB K ta σ H ma) : EvB K (tOp (rIxT K) ta (tC (.int i))) σ H (o1 (fun x => some x.1) ma) := fun x hx H1 e Q q => by
  obtain ⟨a, e1, e3⟩ := o1s hx
  cases e3
  subst hi
  refine ha a e1 H1 e _ fun v H2 g2 r2 => ?_
  obtain ⟨p, u, w, rfl, h2, h3, h4⟩ := r2
  exact ⟨p, _, 0, u, rfl, rfl, SqT.of h2, rfl, q u H2 g2 h3⟩
theorem eb_snd {ma : Option (A × B)} {i : Int} (hi : i = 1) (ha : EvB K ta σ H ma) : EvB K (tOp (rIxT K) ta (tC (.int i))) σ H (o1 (fun x => some x.2) ma) := fun x hx H1 e Q q => by
  obtain ⟨a, e1, e3⟩ := o1s hx
  cases e3
  subst hi
  refine ha a e1 H1 e _ fun v H2 g2 r2 => ?_
  obtain ⟨p, u, w, rfl, h2, h3, h4⟩ := r2
  exact ⟨p, _, 1, w, rfl, rfl, SqT.of h2, rfl, q w H2 g2 h4⟩

/-! tests -/
theorem et_b {m : Option Bool} (h : EvB K te σ H m) : EvT (tB te) σ H m := fun b hb H1 e Q q => h b hb H1 e _ fun v H2 g r => ⟨b, r, q H2 g⟩
theorem et_test {m : Option Bool} (h : EvB K te σ H m) : EvT (tTest te) σ H m := fun b hb H1 e Q q => h b hb H1 e _ fun v H2 g r => ⟨b, r, q H2 g⟩
def oAnd (ma mb : Option Bool) : Option Bool := ma.bind fun a => if a = true then mb else some false
def oOr (ma mb : Option Bool) : Option Bool := ma.bind fun a => if a = true then some true else mb
def oNot (ma : Option Bool) : Option Bool := ma.bind fun a => some (!a)
def oIf {A : Type} (mc : Option Bool) (ma mb : Option A) : Option A := mc.bind fun c => if c = true then ma else mb
theorem ite_tt {P Q : Prop} (h : P) : if true = true then P else Q := by rw [if_pos rfl]; exact h
theorem ite_ff {P Q : Prop} (h : Q) : if false = true then P else Q := by rw [if_neg Bool.false_ne_true]; exact h
theorem et_and {ma mb : Option Bool} (ha : EvT tt σ H ma) (hb : EvT tu σ H mb) : EvT (tAnd tt tu) σ H (oAnd ma mb) := fun b hx H1 e Q q => by
  cases ma with
  | none => cases hx
  | some a =>
    refine ha a rfl H1 e _ fun H2 g2 => ?_
    cases a with
    | true => exact ite_tt (hb b hx H2 (e.trans g2) Q fun H3 g3 => q H3 (g2.trans g3))
    | false => cases hx; exact ite_ff (q H2 g2)
theorem et_or {ma mb : Option Bool} (ha : EvT tt σ H ma) (hb : EvT tu σ H mb) : EvT (tOr tt tu) σ H (oOr ma mb) := fun b hx H1 e Q q => by
  cases ma with
  | none => cases hx
  | some a =>
    refine ha a rfl H1 e _ fun H2 g2 => ?_
    cases a with
    | true => cases hx; exact ite_tt (q H2 g2)
    | false => exact ite_ff (hb b hx H2 (e.trans g2) Q fun H3 g3 => q H3 (g2.trans g3))
theorem et_not {ma : Option Bool} (ha : EvT tt σ H ma) : EvT (tNot tt) σ H (oNot ma) := fun b hx H1 e Q q => by
  cases ma with
  | none => cases hx
  | some a =>
    cases hx
    exact ha a rfl H1 e _ fun H2 g2 => q H2 g2
theorem eb_and {ma mb : Option Bool} (ha : EvB K ta σ H ma) (hb : EvB K tb σ H mb) : EvB K (tAndV ta tb) σ H (oAnd ma mb) := fun b hx H1 e Q q => by
  cases ma with
  | none => cases hx
  | some a =>
    refine ha a rfl H1 e _ fun v H2 g2 r => ⟨a, r, ?_⟩
    cases a with
    | true => exact ite_tt (hb b hx H2 (e.trans g2) Q fun v H3 g3 r3 => q v H3 (g2.trans g3) r3)
    | false => cases hx; exact ite_ff (q _ H2 g2 rfl)
theorem eb_or {ma mb : Option Bool} (ha : EvB K ta σ H ma) (hb : EvB K tb σ H mb) : EvB K (tOrV ta tb) σ H (oOr ma mb) := fun b hx H1 e Q q => by
  cases ma with
  | none => cases hx
  | some a =>
    refine ha a rfl H1 e _ fun v H2 g2 r => ⟨a, r, ?_⟩
    cases a with
    | true => cases hx; exact ite_tt (q _ H2 g2 rfl)
    | false => exact ite_ff (hb b hx H2 (e.trans g2) Q fun v H3 g3 r3 => q v H3 (g2.trans g3) r3)
theorem eb_not {ma : Option Bool} (ha : EvB K ta σ H ma) : EvB K (tNotV ta) σ H (oNot ma) := fun b hx H1 e Q q => by
  cases ma with
  | none => cases hx
  | some a =>
    cases hx
    exact ha a rfl H1 e _ fun v H2 g2 r => ⟨a, r, q _ H2 g2 rfl⟩
theorem eb_if {mc : Option Bool} {ma mb : Option A} (hc : EvT tt σ H mc) (ha : EvB K ta σ H ma) (hb : EvB K tb σ H mb) : EvB K (tIf tt ta tb) σ H (oIf mc ma mb) := fun x hx H1 e Q q => by
  cases mc with
  | none => cases hx
  | some c =>
    refine hc c rfl H1 e _ fun H2 g2 => ?_
    cases c with
    | true => exact ite_tt (ha x hx H2 (e.trans g2) Q fun v H3 g3 r3 => q v H3 (g2.trans g3) r3)
    | false => exact ite_ff (hb x hx H2 (e.trans g2) Q fun v H3 g3 r3 => q v H3 (g2.trans g3) r3)
/-- a chain of two comparisons -/
theorem eb_chain {r r' : R2} {f : A -> B -> Option Bool} {g : B -> C -> Option Bool} {ma : Option A} {mb : Option B} {mc : Option C} (hr : RB K r f) (hr' : RB K r' g) (ha : EvB K ta σ H ma) (hb : EvB K tb σ H mb) (hc : EvB K tc σ H mc) :
    EvB K (tChain r r' ta tb tc) σ H (ma.bind fun a => mb.bind fun b => (f a b).bind fun k => if k = true then mc.bind fun c => g b c else some false) := fun x hx H1 e Q q => by
  cases ma with
  | none => cases hx
  | some a => cases mb with
    | none => cases hx
    | some b =>
      have hx' : ((f a b).bind fun k => if k = true then mc.bind fun c => g b c else some false) = some x := hx
      refine ha a rfl H1 e _ fun v H2 g2 r2 => hb b rfl H2 (e.trans g2) _ fun w H3 g3 r3 => ?_
      cases hf : f a b with
      | none => rw [hf] at hx'; cases hx'
      | some k =>
        rw [hf] at hx'
        refine hr H3 v w a b k (Rp.mono g3 r2) r3 hf _ fun z H4 g4 r4 => ⟨k, r4, ?_⟩
        cases k with
        | true =>
          cases mc with
          | none => cases hx'
          | some c =>
            refine ite_tt (hc c rfl H4 (((e.trans g2).trans g3).trans g4) _ fun u H5 g5 r5 => hr' H5 w u b c x (Rp.mono (g4.trans g5) r3) r5 hx' Q fun o H6 g6 r6 => q o H6 ((((g2.trans g3).trans g4).trans g5).trans g6) r6)
        | false =>
          cases hx'
          exact ite_ff (q _ H4 ((g2.trans g3).trans g4) rfl)

/-! argument lists -/
theorem call1 {r : List V -> Hp -> VK -> Prop} {ma : Option A} {f : A -> Option C} (h : forall H v x c, rp K H v x -> f x = some c -> forall Q : VK, (forall z H2, Gx H H2 -> rp K H2 z c -> Q z H2) -> r [v] H Q) (ha : EvB K ta σ H ma) :
    EvB K (tCB r (tCons ta tNil)) σ H (o1 f ma) := fun x hx H1 e Q q => by
  obtain ⟨a, e1, e3⟩ := o1s hx
  exact ha a e1 H1 e _ fun v H2 g2 r2 => h H2 v a x r2 e3 Q fun z H3 g3 r3 => q z H3 (g2.trans g3) r3
theorem call2 {r : List V -> Hp -> VK -> Prop} {ma : Option A} {mb : Option B} {f : A -> B -> Option C} (h : forall H v w x y c, rp K H v x -> rp K H w y -> f x y = some c -> forall Q : VK, (forall z H2, Gx H H2 -> rp K H2 z c -> Q z H2) -> r [v, w] H Q) (ha : EvB K ta σ H ma) (hb : EvB K tb σ H mb) :
    EvB K (tCB r (tCons ta (tCons tb tNil))) σ H (o2 f ma mb) := fun x hx H1 e Q q => by
  obtain ⟨a, b, e1, e2, e3⟩ := o2s hx
  exact ha a e1 H1 e _ fun v H2 g2 r2 => hb b e2 H2 (e.trans g2) _ fun w H3 g3 r3 => h H3 v w a b x (Rp.mono g3 r2) r3 e3 Q fun z H4 g4 r4 => q z H4 ((g2.trans g3).trans g4) r4
/-- a call that makes a list -/
theorem call1L {r : List V -> Hp -> VK -> Prop} {ma : Option A} {f : A -> Option (List C)} (h : forall H v x c, rp K H v x -> f x = some c -> forall Q : VK, (forall p vs, H p = none -> Al (rp K H) vs c -> Q (.ref p) (upd H p (.lst vs))) -> r [v] H Q) (ha : EvB K ta σ H ma) :
    EvN K (tCB r (tCons ta tNil)) σ H (o1 f ma) := fun x hx H1 e Q q => by
  obtain ⟨a, e1, e3⟩ := o1s hx
  exact ha a e1 H1 e _ fun v H2 g2 r2 => h H2 v a x r2 e3 Q fun p vs hp r3 => q p vs _ (g2.back hp) (g2.trans (Gx.new hp)) upd_same (r3.mono fun _ _ => Rp.mono (Gx.new hp))
end
end Pu

set_option Elab.async false
set_option linter.all false
set_option maxRecDepth 100000
namespace Pu
open Pu.Rp (rp)
open PySem PySem.Spec PyProof.Rows L2
section
variable {K : Fg} {A B C D : Type} [Rp A] [Rp B] [Rp C] [Rp D]
variable {σ : L2.St} {G G' H H' : Hp} {L : Led} {te ta tb tc : TE} {tt tu : TT}

/-! built-in calls -/
theorem eb_lenL {ma : Option (List A)} (ha : EvB K ta σ H ma) : EvB K (tCB (fun xs H Q => ∃ p ys, xs = [.ref p] ∧ (SqL K H p ys ∨ SqT K H p ys) ∧ Q (.int ys.length) H) (tCons ta tNil)) σ H (o1 (fun x => some (x.length : Int)) ma) :=
  call1 (fun H v x c r hc Q q => by
    cases hc
    obtain ⟨p, vs, rfl, h2, h3⟩ := r
    refine ⟨p, vs, rfl, .inl (SqL.of h2), ?_⟩
    rw [h3.len]
    exact q _ H Gx.rfl rfl) ha
theorem eb_lenT {ma : Option (Tl A)} (ha : EvB K ta σ H ma) : EvB K (tCB (fun xs H Q => ∃ p ys, xs = [.ref p] ∧ (SqL K H p ys ∨ SqT K H p ys) ∧ Q (.int ys.length) H) (tCons ta tNil)) σ H (o1 (fun x => some (x.l.length : Int)) ma) :=
  call1 (fun H v x c r hc Q q => by
    cases hc
    obtain ⟨p, vs, rfl, h2, h3⟩ := r
    refine ⟨p, vs, rfl, .inr (SqT.of h2), ?_⟩
    rw [h3.len]
    exact q _ H Gx.rfl rfl) ha
def imax (i j : Int) : Int := if j > i then j else i
def imin (i j : Int) : Int := if j < i then j else i
theorem eb_max2 {ma mb : Option Int} (ha : EvB K ta σ H ma) (hb : EvB K tb σ H mb) : EvB K (tCB (fun xs H Q => ∃ i j, xs = [.int i, .int j] ∧ Q (.int (if j > i then j else i)) H) (tCons ta (tCons tb tNil))) σ H (o2 (fun i j => some (imax i j)) ma mb) :=
  call2 (fun H v w x y c r1 r2 hc Q q => by
    cases hc; cases r1; cases r2
    exact ⟨x, y, rfl, q _ H Gx.rfl rfl⟩) ha hb
theorem eb_min2 {ma mb : Option Int} (ha : EvB K ta σ H ma) (hb : EvB K tb σ H mb) : EvB K (tCB (fun xs H Q => ∃ i j, xs = [.int i, .int j] ∧ Q (.int (if j < i then j else i)) H) (tCons ta (tCons tb tNil))) σ H (o2 (fun i j => some (imin i j)) ma mb) :=
  call2 (fun H v w x y c r1 r2 hc Q q => by
    cases hc; cases r1; cases r2
    exact ⟨x, y, rfl, q _ H Gx.rfl rfl⟩) ha hb
theorem eb_sum {ma : Option (List Int)} (ha : EvB K ta σ H ma) : EvB K (tCB (rSum K) (tCons ta tNil)) σ H (o1 (fun x => some x.sum) ma) :=
  call1 (fun H v x c r hc Q q => by
    cases hc
    obtain ⟨p, vs, rfl, h2, h3⟩ := r
    rw [al_int h3] at h2
    exact ⟨p, x, rfl, SqL.of h2, q _ H Gx.rfl rfl⟩) ha
theorem eb_any {ma : Option (List Bool)} (ha : EvB K ta σ H ma) : EvB K (tCB (rAny K) (tCons ta tNil)) σ H (o1 (fun x => some (x.any id)) ma) :=
  call1 (fun H v x c r hc Q q => by
    cases hc
    obtain ⟨p, vs, rfl, h2, h3⟩ := r
    rw [al_bl h3] at h2
    exact ⟨p, x, rfl, SqL.of h2, q _ H Gx.rfl rfl⟩) ha
theorem eb_all {ma : Option (List Bool)} (ha : EvB K ta σ H ma) : EvB K (tCB (rAll K) (tCons ta tNil)) σ H (o1 (fun x => some (x.all id)) ma) :=
  call1 (fun H v x c r hc Q q => by
    cases hc
    obtain ⟨p, vs, rfl, h2, h3⟩ := r
    rw [al_bl h3] at h2
    exact ⟨p, x, rfl, SqL.of h2, q _ H Gx.rfl rfl⟩) ha
/-- the rising list of a list of ints -/
def isort (x : List Int) : List Int := x.mergeSort (fun a b => decide (a ≤ b))
theorem isort_perm (x : List Int) : (isort x).Perm x := List.mergeSort_perm _ _
theorem isort_le (x : List Int) : (isort x).Pairwise (· ≤ ·) := by
  have h := List.pairwise_mergeSort (le := fun a b : Int => decide (a ≤ b)) (fun a b c h1 h2 => by simp only [decide_eq_true_eq] at *; omega) (fun a b => by simp only [Bool.or_eq_true, decide_eq_true_eq]; omega) x
  exact h.imp fun h => by simpa using h
theorem pw_uniq : forall {xs ys : List Int}, xs.Perm ys -> xs.Pairwise (· ≤ ·) -> ys.Pairwise (· ≤ ·) -> xs = ys := fun {xs ys} p h1 h2 =>
  p.eq_of_pairwise (fun a b _ _ h h' => Int.le_antisymm h h') h1 h2
theorem en_sorted {ma : Option (List Int)} (ha : EvB K ta σ H ma) : EvN K (tCB (rSortedI K) (tCons ta tNil)) σ H (o1 (fun x => some (isort x)) ma) :=
  call1L (fun H v x c r hc Q q => by
    cases hc
    obtain ⟨p, vs, rfl, h2, h3⟩ := r
    rw [al_int h3] at h2
    refine ⟨p, x, rfl, SqL.of h2, fun ns p' hp1 hp2 hn => ?_⟩
    rw [pw_uniq (hp1.trans (isort_perm x).symm) hp2 (isort_le x)]
    exact q p' _ hn (int_al _)) ha
theorem en_list {ma : Option (List A)} (ha : EvB K ta σ H ma) : EvN K (tCB (fun xs H Q => ∃ p ys, xs = [.ref p] ∧ (SqL K H p ys ∨ SqT K H p ys) ∧ ∀ l, H l = none → Q (.ref l) (upd H l (.lst ys))) (tCons ta tNil)) σ H (o1 (fun x => some x) ma) :=
  call1L (fun H v x c r hc Q q => by
    cases hc
    obtain ⟨p, vs, rfl, h2, h3⟩ := r
    exact ⟨p, vs, rfl, .inl (SqL.of h2), fun l hl => q l vs hl h3⟩) ha
theorem en_listT {ma : Option (Tl A)} (ha : EvB K ta σ H ma) : EvN K (tCB (fun xs H Q => ∃ p ys, xs = [.ref p] ∧ (SqL K H p ys ∨ SqT K H p ys) ∧ ∀ l, H l = none → Q (.ref l) (upd H l (.lst ys))) (tCons ta tNil)) σ H (o1 (fun x => some x.l) ma) :=
  call1L (fun H v x c r hc Q q => by
    cases hc
    obtain ⟨p, vs, rfl, h2, h3⟩ := r
    exact ⟨p, vs, rfl, .inr (SqT.of h2), fun l hl => q l vs hl h3⟩) ha
theorem eb_tuple {ma : Option (List A)} (ha : EvB K ta σ H ma) : EvB K (tCB (fun xs H Q => ∃ p ys, xs = [.ref p] ∧ ((SqL K H p ys ∧ ∀ l, H l = none → Q (.ref l) (upd H l (.tup ys))) ∨ (SqT K H p ys ∧ Q (.ref p) H))) (tCons ta tNil)) σ H (o1 (fun x => some (Tl.mk x)) ma) :=
  call1 (fun H v x c r hc Q q => by
    cases hc
    obtain ⟨p, vs, rfl, h2, h3⟩ := r
    exact ⟨p, vs, rfl, .inl ⟨SqL.of h2, fun l hl => q _ _ (Gx.new hl) ⟨l, vs, rfl, upd_same, h3.mono fun _ _ => Rp.mono (Gx.new hl)⟩⟩⟩) ha

/-! displays -/
theorem eb_tup2 {ma : Option A} {mb : Option B} (ha : EvB K ta σ H ma) (hb : EvB K tb σ H mb) : EvB K (tTup (tCons ta (tCons tb tNil))) σ H (o2 (fun a b => some (a, b)) ma mb) := fun x hx H1 e Q q => by
  obtain ⟨a, b, e1, e2, e3⟩ := o2s hx
  cases e3
  refine ha a e1 H1 e _ fun v H2 g2 r2 => hb b e2 H2 (e.trans g2) _ fun w H3 g3 r3 => ⟨by show 2 ≤ sizeLine; decide, fun p hp => ?_⟩
  exact q _ _ ((g2.trans g3).trans (Gx.new hp)) ⟨p, v, w, rfl, upd_same, Rp.mono (g3.trans (Gx.new hp)) r2, Rp.mono (Gx.new hp) r3⟩
theorem eb_tup3 {ma : Option A} {mb : Option B} {mc : Option C} (ha : EvB K ta σ H ma) (hb : EvB K tb σ H mb) (hc : EvB K tc σ H mc) : EvB K (tTup (tCons ta (tCons tb (tCons tc tNil)))) σ H (ma.bind fun a => mb.bind fun b => mc.bind fun c => some (T3.mk a b c)) := fun x hx H1 e Q q => by
  cases ma with
  | none => cases hx
  | some a => cases mb with
    | none => cases hx
    | some b => cases mc with
      | none => cases hx
      | some c =>
        cases hx
        refine ha a rfl H1 e _ fun v H2 g2 r2 => hb b rfl H2 (e.trans g2) _ fun w H3 g3 r3 => hc c rfl H3 ((e.trans g2).trans g3) _ fun z H4 g4 r4 => ⟨by show 3 ≤ sizeLine; decide, fun p hp => ?_⟩
        exact q _ _ (((g2.trans g3).trans g4).trans (Gx.new hp)) ⟨p, v, w, z, rfl, upd_same, Rp.mono ((g3.trans g4).trans (Gx.new hp)) r2, Rp.mono (g4.trans (Gx.new hp)) r3, Rp.mono (Gx.new hp) r4⟩
/-- some expressions of one kind, from the left -/
def EvL (K : Fg) (ta : TA) (σ : L2.St) (H : Hp) (m : Option (List A)) : Prop :=
  forall xs, m = some xs -> forall H1, Gx H H1 -> forall Q : List V -> Hp -> Prop, (forall vs H2, Gx H1 H2 -> Al (rp K H2) vs xs -> Q vs H2) -> ta σ H1 Q
theorem el_nil : EvL (A := A) K tNil σ H (some []) := fun xs hx H1 e Q q => by
  cases hx
  exact q [] H1 Gx.rfl trivial
theorem el_cons {tr : TA} {ma : Option A} {mr : Option (List A)} (ha : EvB K ta σ H ma) (hr : EvL K tr σ H mr) : EvL K (tCons ta tr) σ H (o2 (fun a r => some (a :: r)) ma mr) := fun xs hx H1 e Q q => by
  obtain ⟨a, b, e1, e2, e3⟩ := o2s hx
  cases e3
  exact ha a e1 H1 e _ fun v H2 g2 r2 => hr b e2 H2 (e.trans g2) _ fun vs H3 g3 r3 => q (v :: vs) H3 (g2.trans g3) ⟨Rp.mono g3 r2, r3⟩
def szOk {A : Type} (xs : List A) : Option (List A) := if xs.length ≤ 100000 then some xs else none
theorem szOks {A : Type} {xs ys : List A} (h : szOk xs = some ys) : ys = xs ∧ xs.length ≤ 100000 := by
  unfold szOk at h
  split at h
  · cases h; exact ⟨rfl, by assumption⟩
  · cases h
theorem eb_tupl {tr : TA} {mr : Option (List A)} (h : EvL K tr σ H mr) : EvB K (tTup tr) σ H (o1 (fun x => (szOk x).map Tl.mk) mr) := fun x hx H1 e Q q => by
  obtain ⟨a, e1, e3⟩ := o1s hx
  obtain ⟨b, e4, e5⟩ := Option.map_eq_some_iff.mp e3
  obtain ⟨rfl, hz⟩ := szOks e4
  subst e5
  refine h b e1 H1 e _ fun vs H2 g2 r2 => ⟨by rw [r2.len]; exact Evl.sz_of hz, fun p hp => q _ _ (g2.trans (Gx.new hp)) ⟨p, vs, rfl, upd_same, r2.mono fun _ _ => Rp.mono (Gx.new hp)⟩⟩
theorem en_lst {tr : TA} {mr : Option (List A)} (h : EvL K tr σ H mr) : EvN K (tLst tr) σ H (o1 szOk mr) := fun x hx H1 e Q q => by
  obtain ⟨a, e1, e3⟩ := o1s hx
  obtain ⟨rfl, hz⟩ := szOks e3
  exact h x e1 H1 e _ fun vs H2 g2 r2 => ⟨by rw [r2.len]; exact Evl.sz_of hz, fun p hp => q p vs _ (g2.back hp) (g2.trans (Gx.new hp)) upd_same (r2.mono fun _ _ => Rp.mono (Gx.new hp))⟩

/-! slices -/
def EvP (to : TO) (σ : L2.St) (H : Hp) (m : Option (Option Int)) : Prop := forall o, m = some o -> forall H1, Gx H H1 -> forall Q : Option Int -> Hp -> Prop, (forall H2, Gx H1 H2 -> Q o H2) -> to σ H1 Q
theorem ep_none : EvP tNoPart σ H (some none) := fun o ho H1 e Q q => by
  cases ho
  exact q H1 Gx.rfl
theorem ep_some {m : Option Int} (h : EvB K te σ H m) : EvP (tPart te) σ H (m.map some) := fun o ho H1 e Q q => by
  obtain ⟨a, e1, e2⟩ := Option.map_eq_some_iff.mp ho
  subst e2
  exact h a e1 H1 e _ fun v H2 g r => ⟨a, r, q H2 g⟩
def cutM {A : Type} (xs : List A) (lo hi : Option Int) : List A := (xs.drop (HT.sIx xs.length 0 lo)).take (HT.sIx xs.length xs.length hi - HT.sIx xs.length 0 lo)
theorem al_cut {A : Type} {F : V -> A -> Prop} {vs : List V} {xs : List A} {lo hi : Option Int} (q : Al F vs xs) : Al F (cutV vs lo hi) (cutM xs lo hi) := by
  unfold cutV cutM
  rw [q.len]
  exact (q.drop _).take _
def o3 {A B C D : Type} (f : A -> B -> C -> Option D) (ma : Option A) (mb : Option B) (mc : Option C) : Option D := ma.bind fun a => mb.bind fun b => mc.bind fun c => f a b c
theorem o3s {A B C D : Type} {f : A -> B -> C -> Option D} {ma : Option A} {mb : Option B} {mc : Option C} {d : D} (h : o3 f ma mb mc = some d) : exists a b c, ma = some a ∧ mb = some b ∧ mc = some c ∧ f a b c = some d := by
  cases ma with
  | none => cases h
  | some a => cases mb with
    | none => cases h
    | some b => cases mc with
      | none => cases h
      | some c => exact ⟨a, b, c, rfl, rfl, rfl, h⟩
theorem en_sl {tl th : TO} {ma : Option (List A)} {ml mh : Option (Option Int)} (ha : EvB K te σ H ma) (hl : EvP tl σ H ml) (hh : EvP th σ H mh) : EvN K (tSl (rSlL K) te tl th) σ H (o3 (fun a l h => some (cutM a l h)) ma ml mh) := fun x hx H1 e Q q => by
  obtain ⟨a, l, h, e1, e2, e3, e4⟩ := o3s hx
  cases e4
  refine ha a e1 H1 e _ fun v H2 g2 r2 => hl l e2 H2 (e.trans g2) _ fun H3 g3 => hh h e3 H3 ((e.trans g2).trans g3) _ fun H4 g4 => ?_
  have g5 := (g2.trans g3).trans g4
  obtain ⟨p, vs, rfl, h2, h3⟩ := Rp.mono (g3.trans g4) r2
  exact ⟨p, vs, rfl, SqL.of h2, fun p' hp => q p' _ _ (g5.back hp) (g5.trans (Gx.new hp)) upd_same ((al_cut h3).mono fun _ _ => Rp.mono (Gx.new hp))⟩
/-- a slice of a tuple -/
theorem eb_slT {tl th : TO} {ma : Option (Tl A)} {ml mh : Option (Option Int)} (ha : EvB K te σ H ma) (hl : EvP tl σ H ml) (hh : EvP th σ H mh) : EvB K (tSl (rSlA K) te tl th) σ H (o3 (fun a l h => some (Tl.mk (cutM a.l l h))) ma ml mh) := fun x hx H1 e Q q => by
  obtain ⟨a, l, h, e1, e2, e3, e4⟩ := o3s hx
  cases e4
  refine ha a e1 H1 e _ fun v H2 g2 r2 => hl l e2 H2 (e.trans g2) _ fun H3 g3 => hh h e3 H3 ((e.trans g2).trans g3) _ fun H4 g4 => ?_
  have g5 := (g2.trans g3).trans g4
  obtain ⟨p, vs, rfl, h2, h3⟩ := Rp.mono (g3.trans g4) r2
  refine ⟨p, vs, rfl, SqT.of h2, fun hw => q _ _ g5 ⟨p, vs, rfl, h2, ?_⟩, fun _ p' hp => q _ _ (g5.trans (Gx.new hp)) ⟨p', _, rfl, upd_same, (al_cut h3).mono fun _ _ => Rp.mono (Gx.new hp)⟩⟩
  have e6 : cutM a.l l h = a.l := by
    unfold cutM
    rw [← h3.len, hw.1, hw.2, List.drop_zero, Nat.sub_zero, h3.len]
    exact List.take_length
  rw [e6]
  exact h3
/-- xs + ys, lists -/
theorem en_cat {ma mb : Option (List A)} (ha : EvB K ta σ H ma) (hb : EvB K tb σ H mb) : EvN K (tOp rCat ta tb) σ H (o2 (fun a b => szOk (a ++ b)) ma mb) := fun x hx H1 e Q q => by
  obtain ⟨a, b, e1, e2, e3⟩ := o2s hx
  obtain ⟨rfl, hz⟩ := szOks e3
  refine ha a e1 H1 e _ fun v H2 g2 r2 => hb b e2 H2 (e.trans g2) _ fun w H3 g3 r3 => ?_
  obtain ⟨p, vs, rfl, h2, h3⟩ := Rp.mono g3 r2
  obtain ⟨p2, vs2, rfl, h4, h5⟩ := r3
  have g5 := g2.trans g3
  refine ⟨p, p2, vs, vs2, rfl, rfl, h2, h4, ?_, fun p' hp => q p' _ _ (g5.back hp) (g5.trans (Gx.new hp)) upd_same ((h3.app h5).mono fun _ _ => Rp.mono (Gx.new hp))⟩
  rw [h3.len, h5.len, ← List.length_append]
  exact Evl.sz_of hz
end
end Pu

set_option Elab.async false
set_option linter.all false
set_option maxRecDepth 100000
namespace Pu
open Pu.Rp (rp)
open PySem PySem.Spec PyProof.Rows L2
section
variable {K : Fg} {A B C D : Type} [Rp A] [Rp B] [Rp C] [Rp D]
variable {σ : L2.St} {G G' H H' : Hp} {L : Led} {M : List Addr} {te ta tb tc : TE} {tt tu : TT}

/-! what is walked: M is what a turn may change -/
def mns (H : Hp) (M : List Addr) : Hp := fun b => if b ∈ M then none else H b
theorem mns_ex {H : Hp} {M : List Addr} : Gx (mns H M) H := fun a o h => by
  unfold mns at h
  split at h
  · cases h
  · exact h
theorem mns_nil {H : Hp} : mns H [] = H := by
  funext b
  unfold mns
  rw [if_neg (by simp)]
theorem mns_in {H : Hp} {M : List Addr} {b : Addr} (h : b ∈ M) : mns H M b = none := if_pos h
theorem mns_out {H : Hp} {M : List Addr} {b : Addr} (h : b ∉ M) : mns H M b = H b := if_neg h
theorem mns_mono {H H' : Hp} {M : List Addr} (e : Gx H H') : Gx (mns H M) (mns H' M) := fun a o h => by
  by_cases q : a ∈ M
  · rw [mns_in q] at h; cases h
  · rw [mns_out q] at h; rw [mns_out q]; exact e a o h
/-- B within H, apart from M -/
theorem mns_of {B H : Hp} {M : List Addr} (e : Gx B H) (h : forall p, p ∈ M -> B p = none) : Gx B (mns H M) := fun a o q => by
  have z : a ∉ M := fun y => by rw [h a y] at q; cases q
  rw [mns_out z]
  exact e a o q
/-- a change at one of M -/
theorem mns_upd {S H : Hp} {p : Addr} {o : HO} (e : Gx S H) (hp : S p = none) : Gx S (upd H p o) := Gx.mut e hp
def EvS (K : Fg) (te : TE) (σ : L2.St) (M : List Addr) (H : Hp) (m : Option A) : Prop :=
  forall x, m = some x -> forall H1, Gx H H1 -> forall Q : VK, (forall v H2, Gx H1 H2 -> rp K (mns H2 M) v x -> Q v H2) -> te σ H1 Q
theorem es_v {i : Nat} {v : V} {x : A} {Bs : Hp} (h : σ[i]? = some (some v)) (r : rp K Bs v x) (e : Gx Bs H) (hM : forall p, p ∈ M -> Bs p = none) : EvS K (tVar i) σ M H (some x) := fun y hy H1 e1 Q q => by
  cases hy
  exact ⟨v, h, q v H1 Gx.rfl (Rp.mono (mns_of (e.trans e1) hM) r)⟩
theorem es_o {m : Option A} (h : EvO K te σ G H m) (a : At G H L) (hM : forall p, p ∈ M -> p ∈ L.map (·.1)) : EvS K te σ M H m := fun x hx H1 e1 Q q =>
  h x hx G H1 L Gx.rfl e1 (a.grow e1) Q fun v G2 H2 g2 e2 a2 r => q v H2 e2 (Rp.mono (mns_of a2.ex fun p hp => by
    obtain ⟨o, ho, e⟩ := List.mem_map.mp (hM p hp)
    rw [← e]
    exact (a2.led o ho).2.1) r)
theorem es_b {m : Option A} (h : EvB K te σ H m) : EvS K te σ [] H m := fun x hx H1 e1 Q q => h x hx H1 e1 Q fun v H2 e2 r => q v H2 e2 (by rw [mns_nil]; exact r)
/-- .. of what leans on tuples alone -/
theorem es_im [Im A] {m : Option A} (h : EvB K te σ H m) (hM : forall p, p ∈ M -> exists o, H p = some o ∧ Mu o) : EvS K te σ M H m := fun x hx H1 e1 Q q => h x hx H1 e1 Q fun v H2 e2 r => q v H2 e2 (Im.im (fun a xs ha => by
  have z : a ∉ M := fun y => by
    obtain ⟨o, ho, mu⟩ := hM a y
    have := (e1.trans e2) a o ho
    rw [this] at ha
    rw [Option.some.inj ha] at mu
    exact mu
  rw [mns_out z]
  exact ha) r)
def Wk {I : Type} [Rp I] (K : Fg) (J : It) (xs : List I) (S : Hp) : Prop :=
  (forall i H, i < xs.length -> Gx S H -> J.go i H) ∧ (forall H, Gx S H -> J.stop xs.length H) ∧ (forall i H v H' x, Gx S H -> xs[i]? = some x -> J.yld i H v H' -> Gx H H' ∧ rp K H' v x)
def EvI {I : Type} [Rp I] (K : Fg) (wi : TI) (σ : L2.St) (M : List Addr) (H : Hp) (m : Option (List I)) : Prop :=
  forall xs, m = some xs -> forall H1, Gx H H1 -> forall R : It -> Hp -> Prop, (forall J H2, Gx H1 H2 -> Wk K J xs (mns H2 M) -> R J H2) -> wi σ H1 R
theorem EvS.mono {m : Option A} (h : EvS K te σ M H m) (e : Gx H H') : EvS K te σ M H' m := fun x hx H1 e1 Q q => h x hx H1 (e.trans e1) Q q
theorem wk_list {a : Addr} {vs : List V} {xs : List A} {S : Hp} (h : S a = some (.lst vs)) (r : Al (rp K S) vs xs) : Wk K (Itl K a) xs S :=
  ⟨fun i H hi e => by
    obtain ⟨v, hv, _⟩ := r.get (List.getElem?_eq_getElem hi)
    exact ⟨vs, v, SqL.of (e _ _ h), hv⟩, fun H e => ⟨vs, SqL.of (e _ _ h), by rw [r.len]; exact Nat.le_refl _⟩, fun i H v H' x e hx y => by
    obtain ⟨rfl, y⟩ := y
    obtain ⟨w, hw, rw'⟩ := r.get hx
    have q := y vs (SqL.of (e _ _ h))
    rw [hw] at q
    cases q
    exact ⟨Gx.rfl, Rp.mono e rw'⟩⟩
theorem wk_tup {a : Addr} {vs : List V} {xs : List A} {S : Hp} (h : S a = some (.tup vs)) (r : Al (rp K S) vs xs) : Wk K (Itt K a) xs S :=
  ⟨fun i H hi e => by
    obtain ⟨v, hv, _⟩ := r.get (List.getElem?_eq_getElem hi)
    exact ⟨vs, v, SqT.of (e _ _ h), hv⟩, fun H e => ⟨vs, SqT.of (e _ _ h), by rw [r.len]; exact Nat.le_refl _⟩, fun i H v H' x e hx y => by
    obtain ⟨rfl, y⟩ := y
    obtain ⟨w, hw, rw'⟩ := r.get hx
    have q := y vs (SqT.of (e _ _ h))
    rw [hw] at q
    cases q
    exact ⟨Gx.rfl, Rp.mono e rw'⟩⟩
theorem ei_list {ma : Option (List A)} (h : EvS K ta σ M H ma) : EvI K (iList K ta) σ M H ma := fun xs hx H1 e R q =>
  h xs hx H1 e _ fun v H2 g r => by
    obtain ⟨a, vs, rfl, h2, h3⟩ := r
    exact ⟨a, rfl, ⟨vs, SqL.of (mns_ex _ _ h2)⟩, q _ H2 g (wk_list h2 h3)⟩
theorem ei_tup {ma : Option (Tl A)} (h : EvS K ta σ M H ma) : EvI K (iTup K ta) σ M H (ma.map Tl.l) := fun xs hx H1 e R q => by
  obtain ⟨x, hx1, rfl⟩ := Option.map_eq_some_iff.mp hx
  exact h x hx1 H1 e _ fun v H2 g r => by
    obtain ⟨a, vs, rfl, h2, h3⟩ := r
    exact ⟨a, rfl, ⟨vs, SqT.of (mns_ex _ _ h2)⟩, q _ H2 g (wk_tup h2 h3)⟩
def rng (lo hi : Int) : List Int := (List.range (hi - lo).toNat).map fun i : Nat => lo + (i : Int)
theorem rng_get {lo hi : Int} {i : Nat} {x : Int} (h : (rng lo hi)[i]? = some x) : x = lo + (i : Int) := by
  unfold rng at h
  rw [List.getElem?_map] at h
  obtain ⟨k, hk, rfl⟩ := Option.map_eq_some_iff.mp h
  obtain ⟨_, e⟩ := List.getElem?_eq_some_iff.mp hk
  rw [List.getElem_range] at e
  rw [e]
theorem wk_rng {lo hi : Int} {S : Hp} : Wk K (Itr lo (hi - lo).toNat) (rng lo hi) S := by
  have hl : (rng lo hi).length = (hi - lo).toNat := by unfold rng; rw [List.length_map, List.length_range]
  refine ⟨fun i H h _ => by rw [hl] at h; exact h, fun H _ => by rw [hl]; exact Nat.le_refl _, fun i H v H' x _ hx y => ?_⟩
  obtain ⟨rfl, rfl⟩ := y
  rw [rng_get hx]
  exact ⟨Gx.rfl, rfl⟩
def rgOk (i : Int) : Bool := decide (-(2 ^ 62) ≤ i) && decide (i < 2 ^ 62)
theorem rgOks {i : Int} (h : rgOk i = true) : -(2 ^ 62) ≤ i ∧ i < 2 ^ 62 := by
  unfold rgOk at h
  simpa using h
theorem ei_rng1 {ma : Option Int} (h : EvB K ta σ H ma) : EvI K (iRng1 (tCons ta tNil)) σ M H (ma.bind fun j => if rgOk j = true then some (rng 0 j) else none) := fun xs hx H1 e R q => by
  cases ma with
  | none => cases hx
  | some j =>
    by_cases hj : rgOk j = true
    · have hx' : (if rgOk j = true then some (rng 0 j) else none) = some xs := hx
      rw [if_pos hj] at hx'
      cases hx'
      refine h j rfl H1 e _ fun v H2 g r => ?_
      obtain ⟨h1, h2⟩ := rgOks hj
      refine ⟨j, by rw [show v = .int j from r], h1, h2, q _ H2 g ?_⟩
      have := wk_rng (K := K) (lo := 0) (hi := j) (S := mns H2 M)
      rw [Int.sub_zero] at this
      exact this
    · have hx' : (if rgOk j = true then some (rng 0 j) else none) = some xs := hx
      rw [if_neg hj] at hx'
      cases hx'
theorem ei_rng2 {ma mb : Option Int} (h : EvB K ta σ H ma) (h' : EvB K tb σ H mb) : EvI K (iRng2 (tCons ta (tCons tb tNil))) σ M H (o2 (fun i j => if rgOk i = true ∧ rgOk j = true then some (rng i j) else none) ma mb) := fun xs hx H1 e R q => by
  obtain ⟨i, j, e1, e2, e3⟩ := o2s hx
  by_cases hj : rgOk i = true ∧ rgOk j = true
  · rw [if_pos hj] at e3
    cases e3
    refine h i e1 H1 e _ fun v H2 g r => h' j e2 H2 (e.trans g) _ fun w H3 g3 r3 => ?_
    obtain ⟨h1, h2⟩ := rgOks hj.1
    obtain ⟨h3, h4⟩ := rgOks hj.2
    exact ⟨i, j, by rw [show v = .int i from r, show w = .int j from r3], ⟨h1, h2, h3, h4⟩, q _ H3 (g.trans g3) wk_rng⟩
  · rw [if_neg hj] at e3
    cases e3
/-- two lists side by side -/
theorem wk_zip {a b : Addr} {vs ws : List V} {xs : List A} {ys : List B} {S : Hp} (h : S a = some (.lst vs)) (r : Al (rp K S) vs xs) (h' : S b = some (.lst ws)) (r' : Al (rp K S) ws ys) : Wk K (Itz K a b) (xs.zip ys) S := by
  refine ⟨fun i H hi e => ?_, fun H e => ⟨vs, ws, SqL.of (e _ _ h), SqL.of (e _ _ h'), ?_⟩, fun i H v H' x e hx y => ?_⟩
  · rw [List.length_zip] at hi
    obtain ⟨v, hv, _⟩ := r.get (List.getElem?_eq_getElem (show i < xs.length by omega))
    obtain ⟨w, hw, _⟩ := r'.get (List.getElem?_eq_getElem (show i < ys.length by omega))
    exact ⟨vs, ws, v, w, SqL.of (e _ _ h), SqL.of (e _ _ h'), hv, hw⟩
  · rw [List.length_zip, r.len, r'.len]
    omega
  · obtain ⟨T, x1, y1, rfl, hT, rfl, f1, f2⟩ := y
    have hz := List.getElem?_zip_eq_some.mp hx
    obtain ⟨v, hv, rv⟩ := r.get hz.1
    obtain ⟨w, hw, rw'⟩ := r'.get hz.2
    have q1 := f1 vs (SqL.of (e _ _ h))
    have q2 := f2 ws (SqL.of (e _ _ h'))
    rw [hv] at q1
    rw [hw] at q2
    cases q1; cases q2
    have g := Gx.new (o := HO.tup [x1, y1]) hT
    exact ⟨g, T, x1, y1, rfl, upd_same, Rp.mono (e.trans g) rv, Rp.mono (e.trans g) rw'⟩
theorem ei_zip {ma : Option (List A)} {mb : Option (List B)} (h : EvS K ta σ M H ma) (h' : EvS K tb σ M H mb) : EvI K (iZip K (tCons ta (tCons tb tNil))) σ M H (o2 (fun a b => some (a.zip b)) ma mb) := fun xs hx H1 e R q => by
  obtain ⟨a, b, e1, e2, e3⟩ := o2s hx
  cases e3
  refine h a e1 H1 e _ fun v H2 g r => h' b e2 H2 (e.trans g) _ fun w H3 g3 r3 => ?_
  obtain ⟨p, vs, rfl, h2, h3⟩ := Rp.mono (mns_mono (M := M) g3) r
  obtain ⟨p', ws, rfl, h4, h5⟩ := r3
  exact ⟨p, p', vs, ws, rfl, SqL.of (mns_ex _ _ h2), SqL.of (mns_ex _ _ h4), q _ H3 (g.trans g3) (wk_zip h2 h3 h4 h5)⟩
/-- enumerate -/
def enum {A : Type} (xs : List A) : List (Int × A) := (List.range xs.length).map (fun i : Nat => (i : Int)) |>.zip xs
theorem enum_len {A : Type} (xs : List A) : (enum xs).length = xs.length := by
  unfold enum
  rw [List.length_zip, List.length_map, List.length_range, Nat.min_self]
theorem wk_enum {a : Addr} {vs : List V} {xs : List A} {S : Hp} (h : S a = some (.lst vs)) (r : Al (rp K S) vs xs) : Wk K (Ite K a) (enum xs) S := by
  have w := walk_enum (K := K) (a := a) (xs := vs)
  refine ⟨fun i H hi e => w.goes i H (by rw [r.len, ← enum_len]; exact hi) (SqL.of (e _ _ h)), fun H e => ?_, fun i H v H' x e hx y => ?_⟩
  · rw [enum_len, ← r.len]
    exact w.stops H (SqL.of (e _ _ h))
  · have hi : i < (enum xs).length := (List.getElem?_eq_some_iff.mp hx).1
    obtain ⟨T, x1, y1, rfl, hT, rfl, f1, f2⟩ := w.yields i H v H' (by rw [r.len, ← enum_len]; exact hi) (SqL.of (e _ _ h)) y
    unfold enum at hx
    have hz := List.getElem?_zip_eq_some.mp hx
    obtain ⟨v, hv, rv⟩ := r.get hz.2
    have f2' : vs[i]? = some y1 := f2
    have f1' : some (V.int (i : Nat)) = some x1 := f1
    rw [hv] at f2'
    cases f2'; cases f1'
    have g := Gx.new (o := HO.tup [V.int (i : Nat), y1]) hT
    refine ⟨g, T, _, y1, rfl, upd_same, ?_, Rp.mono (e.trans g) rv⟩
    have h1 := hz.1
    rw [List.getElem?_map] at h1
    obtain ⟨k, hk, e1⟩ := Option.map_eq_some_iff.mp h1
    obtain ⟨_, e2⟩ := List.getElem?_eq_some_iff.mp hk
    rw [List.getElem_range] at e2
    show V.int (i : Nat) = V.int x.1
    rw [← e1, e2]
theorem ei_enum {ma : Option (List A)} (h : EvS K ta σ M H ma) : EvI K (iEnum K (tCons ta tNil)) σ M H (ma.map enum) := fun xs hx H1 e R q => by
  obtain ⟨x, hx1, rfl⟩ := Option.map_eq_some_iff.mp hx
  exact h x hx1 H1 e _ fun v H2 g r => by
    obtain ⟨a, vs, rfl, h2, h3⟩ := r
    exact ⟨a, vs, rfl, SqL.of (mns_ex _ _ h2), q _ H2 g (wk_enum h2 h3)⟩

/-! targets -/
abbrev Bd (I : Type) := I -> L2.St -> Hp -> L2.St -> Prop
def bN (A : Type) [Rp A] (K : Fg) (j : Nat) : Bd A := fun x σ H σ2 => exists v, rp K H v x ∧ σ2 = σ.set j (some v)
def bP {A B : Type} (b1 : Bd A) (b2 : Bd B) : Bd (A × B) := fun x σ H σ2 => exists σ1, b1 x.1 σ H σ1 ∧ b2 x.2 σ1 H σ2
def b3 {A B C : Type} (b1 : Bd A) (b2 : Bd B) (b3 : Bd C) : Bd (T3 A B C) := fun x σ H σ2 => exists σ1 σ3, b1 x.a σ H σ1 ∧ b2 x.b σ1 H σ3 ∧ b3 x.c σ3 H σ2
def TgOk {I : Type} [Rp I] (K : Fg) (g : TG) (b : Bd I) : Prop := forall x v σ H (Q : L2.St -> Hp -> Prop), rp K H v x -> (forall σ2, b x σ H σ2 -> Q σ2 H) -> g v σ H Q
theorem tg_n {j : Nat} : TgOk K (gName j) (bN A K j) := fun x v σ H Q r q => q _ ⟨v, r, rfl⟩
theorem tg_p {g1 g2 : TG} {b1 : Bd A} {b2 : Bd B} (h1 : TgOk K g1 b1) (h2 : TgOk K g2 b2) : TgOk K (gTup K 2 (gCons g1 (gCons g2 gNil))) (bP b1 b2) := fun x v σ H Q r q => by
  obtain ⟨a, u, w, rfl, e, r1, r2⟩ := r
  refine ⟨a, [u, w], rfl, SqT.of e, rfl, u, [w], rfl, h1 x.1 u σ H _ r1 fun σ1 q1 => ⟨w, [], rfl, h2 x.2 w σ1 H _ r2 fun σ2 q2 => ⟨rfl, q σ2 ⟨σ1, q1, q2⟩⟩⟩⟩
theorem tg_3 {g1 g2 g3 : TG} {b1 : Bd A} {b2 : Bd B} {b3' : Bd C} (h1 : TgOk K g1 b1) (h2 : TgOk K g2 b2) (h3 : TgOk K g3 b3') : TgOk K (gTup K 3 (gCons g1 (gCons g2 (gCons g3 gNil)))) (b3 b1 b2 b3') := fun x v σ H Q r q => by
  obtain ⟨a, u, w, z, rfl, e, r1, r2, r3⟩ := r
  refine ⟨a, [u, w, z], rfl, SqT.of e, rfl, u, [w, z], rfl, h1 x.a u σ H _ r1 fun σ1 q1 => ⟨w, [z], rfl, h2 x.b w σ1 H _ r2 fun σ2 q2 => ⟨z, [], rfl, h3 x.c z σ2 H _ r3 fun σ3 q3 => ⟨rfl, q σ3 ⟨σ1, σ2, q1, q2, q3⟩⟩⟩⟩⟩
/-- the block's own slots alone are set -/
theorem wipe_sets : forall {vs : List Nat} {σ : L2.St} {j : Nat} {o : Option V}, j ∈ vs -> wipe (σ.set j o) vs = wipe σ vs
  | [], _, _, _, h => nomatch h
  | k :: vs, σ, j, o, h => by
    by_cases e : j ∈ vs
    · show (wipe (σ.set j o) vs).set k none = (wipe σ vs).set k none
      rw [wipe_sets e]
    · have ek : j = k := (List.mem_cons.mp h).elim id fun z => absurd z e
      subst ek
      have c : wipe (σ.set j o) vs = (wipe σ vs).set j o := by
        clear h
        induction vs with
        | nil => rfl
        | cons k vs ih =>
          simp only [List.mem_cons, not_or] at e
          show (wipe (σ.set j o) vs).set k none = ((wipe σ vs).set k none).set j o
          rw [ih e.2, List.set_comm _ _ e.1]
      show (wipe (σ.set j o) vs).set j none = (wipe σ vs).set j none
      rw [c, List.set_set]
theorem wipe_wipe (σ : L2.St) : forall vs : List Nat, wipe (wipe σ vs) vs = wipe σ vs := by
  have h : forall (ws vs : List Nat), (forall j, j ∈ ws -> j ∈ vs) -> wipe (wipe σ ws) vs = wipe σ vs := by
    intro ws
    induction ws with
    | nil => intro vs _; rfl
    | cons k ws ih =>
      intro vs hs
      show wipe ((wipe σ ws).set k none) vs = wipe σ vs
      rw [wipe_sets (hs k List.mem_cons_self)]
      exact ih vs fun j hj => hs j (List.mem_cons_of_mem _ hj)
  exact fun vs => h vs vs fun _ z => z
def BdIn {I : Type} (b : Bd I) (vs : List Nat) : Prop := forall x σ H σ2, b x σ H σ2 -> wipe σ2 vs = wipe σ vs
theorem bi_n {vs : List Nat} {j : Nat} (h : j ∈ vs) : BdIn (bN A K j) vs := fun x σ H σ2 ⟨v, _, e⟩ => by rw [e]; exact wipe_sets h
theorem bi_p {vs : List Nat} {b1 : Bd A} {b2 : Bd B} (h1 : BdIn b1 vs) (h2 : BdIn b2 vs) : BdIn (bP b1 b2) vs := fun x σ H σ2 ⟨σ1, q1, q2⟩ => (h2 _ _ _ _ q2).trans (h1 _ _ _ _ q1)
theorem bi_3 {vs : List Nat} {b1 : Bd A} {b2 : Bd B} {b3' : Bd C} (h1 : BdIn b1 vs) (h2 : BdIn b2 vs) (h3 : BdIn b3' vs) : BdIn (b3 b1 b2 b3') vs := fun x σ H σ2 ⟨σ1, σ3, q1, q2, q3⟩ => ((h3 _ _ _ _ q3).trans (h2 _ _ _ _ q2)).trans (h1 _ _ _ _ q1)

/-! comprehensions -/
def comp {I A : Type} (c : I -> Option Bool) (f : I -> Option A) : List I -> Option (List A)
  | [] => some []
  | x :: xs => (c x).bind fun b => if b = true then (f x).bind fun y => (comp c f xs).bind fun r => some (y :: r) else comp c f xs
theorem comp_cons {I A : Type} {c : I -> Option Bool} {f : I -> Option A} {x : I} {xs : List I} {r : List A} (h : comp c f (x :: xs) = some r) :
    (c x = some true ∧ exists y r', f x = some y ∧ comp c f xs = some r' ∧ r = y :: r') ∨ (c x = some false ∧ comp c f xs = some r) := by
  unfold comp at h
  cases hc : c x with
  | none => rw [hc] at h; cases h
  | some b =>
    rw [hc] at h
    cases b with
    | true =>
      have h' : ((f x).bind fun y => (comp c f xs).bind fun r => some (y :: r)) = some r := h
      cases hf : f x with
      | none => rw [hf] at h'; cases h'
      | some y =>
        rw [hf] at h'
        have h2 : ((comp c f xs).bind fun r => some (y :: r)) = some r := h'
        cases hr : comp c f xs with
        | none => rw [hr] at h2; cases h2
        | some r' =>
          rw [hr] at h2
          exact .inl ⟨rfl, y, r', rfl, rfl, (Option.some.inj h2).symm⟩
    | false => exact .inr ⟨rfl, h⟩
theorem comp_len {I A : Type} {c : I -> Option Bool} {f : I -> Option A} : forall {xs : List I} {r : List A}, comp c f xs = some r -> r.length ≤ xs.length
  | [], r, h => by cases h; exact Nat.le_refl _
  | x :: xs, r, h => by
    rcases comp_cons h with ⟨_, y, r', _, h2, rfl⟩ | ⟨_, h2⟩
    · have := comp_len h2
      simp only [List.length_cons]; omega
    · have := comp_len h2
      simp only [List.length_cons]; omega
def lim {A : Type} (n : Nat) (xs : List A) : Option (List A) := if xs.length ≤ n then some xs else none
/-- the items as they stand at each turn -/
theorem en_lc {I : Type} [Rp I] [Im A] {wi : TI} {g : TG} {b : Bd I} {vs : List Nat} {mx : Option (List I)} {c : I -> Option Bool} {f : I -> Option A} (hi : EvI K wi σ [] H mx) (hg : TgOk K g b) (hb : BdIn b vs)
    (ht : forall x σ2 H', Gx H H' -> b x (wipe σ vs) H' σ2 -> EvT tt σ2 H' (c x)) (he : forall x σ2 H', Gx H H' -> b x (wipe σ vs) H' σ2 -> EvB K te σ2 H' (f x)) :
    EvN K (tLc wi g tt te vs) σ H (mx.bind fun xs => (lim 100000 xs).bind (comp c f)) := fun r hr H1 e1 Q q => by
  cases mx with
  | none => cases hr
  | some xs =>
    have hr' : (lim 100000 xs).bind (comp c f) = some r := hr
    unfold lim at hr'
    by_cases hz : xs.length ≤ 100000
    · rw [if_pos hz] at hr'
      have hr2 : comp c f xs = some r := hr'
      refine hi xs rfl H1 e1 _ fun J H2 e2 wk => ?_
      rw [mns_nil] at wk
      intro D hD
      obtain ⟨go, stop, yld⟩ := wk
      -- what is left
      refine ⟨fun i m Hc => m = xs.length - i ∧ i ≤ xs.length ∧ Gx H2 Hc ∧ exists vs' ys r', Hc D = some (.lst vs') ∧ Al (rp K Hc) vs' ys ∧ ys.length ≤ i ∧ comp c f (xs.drop i) = some r' ∧ r = ys ++ r',
        ⟨xs.length, by simp, Nat.zero_le _, Gx.new hD, [], [], r, upd_same, trivial, Nat.le_refl _, hr2, rfl⟩, ?_⟩
      rintro i m Hc ⟨rfl, hle, gc, vs', ys, r', hDc, ral, hlen, hcomp, rfl⟩
      by_cases hlt : i < xs.length
      · refine .inr ⟨go i Hc hlt gc, fun Hn => i + 1 ≤ xs.length ∧ Gx H2 Hn ∧ exists vs' ys' r'', Hn D = some (.lst vs') ∧ Al (rp K Hn) vs' ys' ∧ ys'.length ≤ i + 1 ∧ comp c f (xs.drop (i + 1)) = some r'' ∧ ys ++ r' = ys' ++ r'',
          fun Hn hn => ⟨xs.length - (i + 1), by omega, rfl, hn.1, hn.2⟩, fun v Hy hy => ?_⟩
        have hx := List.getElem?_eq_getElem hlt
        obtain ⟨gy, ry⟩ := yld i Hc v Hy _ gc hx hy
        have gH : Gx H Hy := (e1.trans e2).trans (gc.trans gy)
        refine hg _ v (wipe σ vs) Hy _ ry fun σ2 hσ => ⟨(hb _ _ _ _ hσ).trans (wipe_wipe σ vs), ?_⟩
        rw [List.drop_eq_getElem_cons hlt] at hcomp
        rcases comp_cons hcomp with ⟨hc, y, r2, hf, h2, rfl⟩ | ⟨hc, h2⟩
        · refine ht _ σ2 Hy gH hσ true hc Hy Gx.rfl _ fun H3 g3 => ite_tt ?_
          refine he _ σ2 Hy gH hσ y hf H3 g3 _ fun u H4 g4 r4 => ?_
          have gD := gy.trans (g3.trans g4)
          have h4 : H4 D = some (.lst vs') := gD _ _ hDc
          have tx : Tx H4 (upd H4 D (.lst (vs' ++ [u]))) := Tx.mut fun xs q => by rw [h4] at q; cases q
          refine ⟨vs', h4, ?_, hlt, (gc.trans gD).mut hD, vs' ++ [u], ys ++ [y], r2, upd_same, ?_, ?_, h2, by simp⟩
          · rw [ral.len]; exact Evl.sz_lt (by omega)
          · exact ((ral.mono fun _ _ => Rp.mono gD).app (Al.one r4)).mono fun _ _ => Im.im tx
          · rw [List.length_append]; simp only [List.length_cons, List.length_nil]; omega
        · refine ht _ σ2 Hy gH hσ false hc Hy Gx.rfl _ fun H3 g3 => ite_ff ?_
          exact ⟨hlt, (gc.trans gy).trans g3, vs', ys, r', (gy.trans g3) _ _ hDc, ral.mono fun _ _ => Rp.mono (gy.trans g3), by omega, h2, rfl⟩
      · have hi : i = xs.length := by omega
        subst hi
        rw [List.drop_length] at hcomp
        cases hcomp
        rw [List.append_nil] at *
        exact .inl ⟨stop Hc gc, q D vs' Hc (e2.back hD) (e2.trans gc) hDc ral⟩
    · rw [if_neg hz] at hr'
      cases hr'
end
end Pu

set_option Elab.async false
set_option linter.all false
set_option maxRecDepth 100000
namespace Pu
open Pu.Rp (rp)
open PySem PySem.Spec PyProof.Rows L2
/-! the ledger's moves -/
theorem nd_mid {A : Type} {p : A} : forall {a b : List A}, (a ++ p :: b).Nodup -> p ∉ a ++ b ∧ (a ++ b).Nodup
  | [], b, h => by
    have := List.nodup_cons.mp h
    exact this
  | x :: a, b, h => by
    have h' := List.nodup_cons.mp h
    have ih := nd_mid h'.2
    have hx : x ∉ a ++ p :: b := h'.1
    refine ⟨fun z => ?_, List.nodup_cons.mpr ⟨fun z => hx ?_, ih.2⟩⟩
    · rcases List.mem_cons.mp z with e | z
      · exact hx (by rw [← e]; simp)
      · exact ih.1 z
    · rcases List.mem_append.mp z with z | z
      · exact List.mem_append_left _ z
      · exact List.mem_append_right _ (List.mem_cons_of_mem _ z)
theorem At.add {G H : Hp} {L : Led} {p : Addr} {o : HO} (A : At G H L) (h : H p = none) (m : Mu o) : At G (upd H p o) ((p, o) :: L) := by
  have e : Gx H (upd H p o) := Gx.new h
  refine ⟨A.ex.trans e, List.nodup_cons.mpr ⟨fun z => ?_, A.nd⟩, fun q hq => ?_⟩
  · obtain ⟨r, hr, er⟩ := List.mem_map.mp z
    have := (A.led r hr).1
    rw [er, h] at this
    cases this
  · rcases List.mem_cons.mp hq with rfl | hq
    · exact ⟨upd_same, A.ex.back h, m⟩
    · exact ⟨e _ _ (A.led q hq).1, (A.led q hq).2⟩
theorem At.set {G H : Hp} {L1 L2 : Led} {p : Addr} {o o' : HO} (A : At G H (L1 ++ (p, o) :: L2)) (m : Mu o') : At G (upd H p o') (L1 ++ (p, o') :: L2) := by
  have nd := A.nd
  rw [List.map_append, List.map_cons] at nd
  have ne : forall q, q ∈ L1 ++ L2 -> q.1 ≠ p := fun q hq e => by
    have n2 := nd_mid nd
    refine n2.1 ?_
    rw [← List.map_append]
    exact List.mem_map.mpr ⟨q, hq, e⟩
  have hp := A.led (p, o) (by simp)
  refine ⟨A.ex.mut hp.2.1, by rw [List.map_append, List.map_cons]; exact nd, fun q hq => ?_⟩
  rcases List.mem_append.mp hq with h1 | h1
  · have z := A.led q (List.mem_append_left _ h1)
    exact ⟨by rw [upd_ne (ne q (List.mem_append_left _ h1))]; exact z.1, z.2⟩
  · rcases List.mem_cons.mp h1 with rfl | h2
    · exact ⟨upd_same, hp.2.1, m⟩
    · have z := A.led q (List.mem_append_right _ (List.mem_cons_of_mem _ h2))
      exact ⟨by rw [upd_ne (ne q (List.mem_append_right _ h2))]; exact z.1, z.2⟩
theorem At.frz {G H : Hp} {L1 L2 : Led} {p : Addr} {o : HO} (A : At G H (L1 ++ (p, o) :: L2)) : Gx G (upd G p o) ∧ At (upd G p o) H (L1 ++ L2) := by
  have nd := A.nd
  rw [List.map_append, List.map_cons] at nd
  have n2 := nd_mid nd
  have hp := A.led (p, o) (by simp)
  refine ⟨Gx.new hp.2.1, fun a u h => ?_, by rw [List.map_append]; exact n2.2, fun q hq => ?_⟩
  · by_cases e : a = p
    · rw [e, upd_same] at h
      cases h
      rw [e]; exact hp.1
    · rw [upd_ne e] at h
      exact A.ex a u h
  · have hq' : q ∈ L1 ++ (p, o) :: L2 := by
      rcases List.mem_append.mp hq with h1 | h1
      · exact List.mem_append_left _ h1
      · exact List.mem_append_right _ (List.mem_cons_of_mem _ h1)
    have z := A.led q hq'
    refine ⟨z.1, ?_, z.2.2⟩
    rw [upd_ne]
    · exact z.2.1
    · intro e
      refine n2.1 ?_
      rw [← List.map_append]
      exact List.mem_map.mpr ⟨q, hq, e⟩
theorem At.drop {G H : Hp} {L1 L2 : Led} (A : At G H (L1 ++ L2)) : At G H L2 :=
  ⟨A.ex, by have := A.nd; rw [List.map_append] at this; exact (List.nodup_append.mp this).2.1, fun q hq => A.led q (List.mem_append_right _ hq)⟩
section
variable {K : Fg} {A B C D : Type} [Rp A] [Rp B] [Rp C] [Rp D]
variable {σ : L2.St} {G G' H H' : Hp} {L L1 L2' : Led} {M : List Addr} {te ta tb tc : TE} {tt tu : TT} {X : Ends} {t1 t2 u : TS} {i : Nat}
theorem mv_rp {p : Addr} {vs : List V} {xs : List A} (a : At G H L) (hp : (p, HO.lst vs) ∈ L) (r : Al (rp K G) vs xs) : rp K H (.ref p) xs :=
  ⟨p, vs, rfl, (a.led _ hp).1, r.mono fun _ _ => Rp.mono a.ex⟩

/-! statements -/
theorem st_asg {m : Option A} {x : A} (h : EvO K te σ G H m) (hm : m = some x) (a : At G H L) (k : forall v G2 H2, Gx G G2 -> Gx H H2 -> At G2 H2 L -> rp K G2 v x -> u X (σ.set i (some v)) H2) : tSeq (tAsg te (gName i)) u X σ H :=
  h x hm G H L Gx.rfl Gx.rfl a _ fun v G2 H2 g e a2 r => k v G2 H2 g e a2 r
/-- a name that reads what others hold -/
theorem st_asgB {m : Option A} {x : A} (h : EvB K te σ H m) (hm : m = some x) (k : forall v H2, Gx H H2 -> rp K H2 v x -> u X (σ.set i (some v)) H2) : tSeq (tAsg te (gName i)) u X σ H :=
  h x hm H Gx.rfl _ fun v H2 e r => k v H2 e r
/-- names for the parts -/
theorem st_asgP {g : TG} {b : Bd A} {m : Option A} {x : A} (h : EvB K te σ H m) (hm : m = some x) (hg : TgOk K g b) (k : forall σ2 H2, Gx H H2 -> b x σ H2 σ2 -> u X σ2 H2) : tSeq (tAsg te g) u X σ H :=
  h x hm H Gx.rfl _ fun v H2 e r => hg x v σ H2 _ r fun σ2 q => k σ2 H2 e q
theorem st_new (a : At G H L) (k : forall p, H p = none -> At G (upd H p (.lst [])) ((p, .lst []) :: L) -> u X (σ.set i (some (.ref p))) (upd H p (.lst []))) : tSeq (tAsg (tLst tNil) (gName i)) u X σ H :=
  ⟨Nat.zero_le _, fun p hp => k p hp (a.add hp trivial)⟩
/-- a list that is one's own to change from now on -/
theorem st_newL {m : Option (List A)} {x : List A} (h : EvO K te σ G H m) (hm : m = some x) (a : At G H L) (k : forall p vs G2 H2, Gx G G2 -> Gx H H2 -> At G2 H2 L -> G2 p = some (.lst vs) -> Al (rp K G2) vs x -> u X (σ.set i (some (.ref p))) H2) : tSeq (tAsg te (gName i)) u X σ H :=
  h x hm G H L Gx.rfl Gx.rfl a _ fun v G2 H2 g e a2 r => by
    obtain ⟨p, vs, rfl, h2, h3⟩ := r
    exact k p vs G2 H2 g e a2 h2 h3
theorem st_app {p : Addr} {vs : List V} {m : Option A} {x : A} (hs : forall H1, Gx H H1 -> forall Q : VK, Q (.ref p) H1 -> ta σ H1 Q) (h : EvO K te σ G H m) (hm : m = some x) (a : At G H (L1 ++ (p, .lst vs) :: L2')) (hz : vs.length < 100000)
    (k : forall v G2 H2, Gx G G2 -> Gx H H2 -> At G2 (upd H2 p (.lst (vs ++ [v]))) (L1 ++ (p, .lst (vs ++ [v])) :: L2') -> rp K G2 v x -> u X σ (upd H2 p (.lst (vs ++ [v])))) :
    tSeq (tDrop (tBM K "list" rAppend ta (tCons te tNil))) u X σ H := by
  have hp := (a.led (p, .lst vs) (by simp)).1
  refine hs H Gx.rfl _ ⟨Or.inl ⟨rfl, vs, SqL.of hp⟩, h x hm G H _ Gx.rfl Gx.rfl a _ fun v G2 H2 g e a2 r => ⟨p, vs, v, rfl, rfl, e _ _ hp, Evl.sz_lt hz, k v G2 H2 g e ?_ r⟩⟩
  exact a2.set trivial
theorem slot_ref {p : Addr} (h : σ[i]? = some (some (.ref p))) : forall H1, Gx H H1 -> forall Q : VK, Q (.ref p) H1 -> tVar i σ H1 Q := fun H1 _ Q q => ⟨_, h, q⟩
theorem st_reverse {p : Addr} {vs : List V} (hs : forall H1, Gx H H1 -> forall Q : VK, Q (.ref p) H1 -> ta σ H1 Q) (a : At G H (L1 ++ (p, .lst vs) :: L2'))
    (k : At G (upd H p (.lst vs.reverse)) (L1 ++ (p, .lst vs.reverse) :: L2') -> u X σ (upd H p (.lst vs.reverse))) : tSeq (tDrop (tBM0 K "list" rReverse ta)) u X σ H := by
  have hp := (a.led (p, .lst vs) (by simp)).1
  exact hs H Gx.rfl _ ⟨Or.inl ⟨rfl, vs, SqL.of hp⟩, p, vs, rfl, rfl, hp, k (a.set trivial)⟩
theorem st_clear {p : Addr} {vs : List V} (hs : forall H1, Gx H H1 -> forall Q : VK, Q (.ref p) H1 -> ta σ H1 Q) (a : At G H (L1 ++ (p, .lst vs) :: L2'))
    (k : At G (upd H p (.lst [])) (L1 ++ (p, .lst []) :: L2') -> u X σ (upd H p (.lst []))) : tSeq (tDrop (tBM0 K "list" rClear ta)) u X σ H := by
  have hp := (a.led (p, .lst vs) (by simp)).1
  exact hs H Gx.rfl _ ⟨Or.inl ⟨rfl, vs, SqL.of hp⟩, p, vs, rfl, rfl, hp, k (a.set trivial)⟩
/-- xs.extend(ys), ys a list just made or one's own -/
theorem st_extend {p : Addr} {vs : List V} {m : Option (List A)} {x : List A} (hs : forall H1, Gx H H1 -> forall Q : VK, Q (.ref p) H1 -> ta σ H1 Q) (h : EvO K te σ G H m) (hm : m = some x) (a : At G H (L1 ++ (p, .lst vs) :: L2')) (hz : vs.length + x.length ≤ 100000)
    (k : forall ws G2 H2, Gx G G2 -> Gx H H2 -> At G2 (upd H2 p (.lst (vs ++ ws))) (L1 ++ (p, .lst (vs ++ ws)) :: L2') -> Al (rp K G2) ws x -> u X σ (upd H2 p (.lst (vs ++ ws)))) :
    tSeq (tDrop (tBM K "list" rExtend ta (tCons te tNil))) u X σ H := by
  have hp := (a.led (p, .lst vs) (by simp)).1
  refine hs H Gx.rfl _ ⟨Or.inl ⟨rfl, vs, SqL.of hp⟩, h x hm G H _ Gx.rfl Gx.rfl a _ fun v G2 H2 g e a2 r => ?_⟩
  obtain ⟨b, ws, rfl, h2, h3⟩ := r
  exact ⟨p, b, vs, ws, rfl, rfl, e _ _ hp, a2.ex _ _ h2, by rw [h3.len]; exact Evl.sz_of hz, k ws G2 H2 g e (a2.set trivial) h3⟩
/-- xs[i] = e -/
theorem st_setL {p : Addr} {vs : List V} {m : Option A} {x : A} {mi : Option Int} {n : Int} {j : Nat} (h : EvO K te σ G H m) (hm : m = some x) (hs : forall H1, Gx H H1 -> forall Q : VK, Q (.ref p) H1 -> ta σ H1 Q) (hi : EvB K tb σ H mi) (hn : mi = some n)
    (a : At G H (L1 ++ (p, .lst vs) :: L2')) (hj : ixN vs.length n = some j)
    (k : forall v G2 H2, Gx G G2 -> Gx H H2 -> At G2 (upd H2 p (.lst (vs.set j v))) (L1 ++ (p, .lst (vs.set j v)) :: L2') -> rp K G2 v x -> u X σ (upd H2 p (.lst (vs.set j v)))) :
    tSeq (tAsg te (gSub ta tb rSetL)) u X σ H := by
  have hp := (a.led (p, .lst vs) (by simp)).1
  refine h x hm G H _ Gx.rfl Gx.rfl a _ fun v G2 H2 g e a2 r => hs H2 e _ ?_
  refine hi n hn H2 e _ fun w H3 e3 rw' => ⟨p, vs, n, j, rfl, rw', e3 _ _ (e _ _ hp), hj, k v G2 H3 g (e.trans e3) (a2.grow e3 |>.set trivial) r⟩
/-- a, b = xs.pop() -/
theorem st_popP {p : Addr} {vs : List V} {xs : List A} {x : A} {g : TG} {b : Bd A} (hs : forall H1, Gx H H1 -> forall Q : VK, Q (.ref p) H1 -> ta σ H1 Q) (a : At G H (L1 ++ (p, .lst vs) :: L2')) (r : Al (rp K G) vs xs) (hx : xs[xs.length - 1]? = some x) [Im A] (hg : TgOk K g b)
    (k : forall σ2, At G (upd H p (.lst vs.dropLast)) (L1 ++ (p, .lst vs.dropLast) :: L2') -> b x σ (upd H p (.lst vs.dropLast)) σ2 -> u X σ2 (upd H p (.lst vs.dropLast))) : tSeq (tAsg (tBM0 K "list" rPop ta) g) u X σ H := by
  have hp := (a.led (p, .lst vs) (by simp)).1
  obtain ⟨v, hv, rv⟩ := r.get hx
  rw [← r.len] at hv
  refine hs H Gx.rfl _ ⟨Or.inl ⟨rfl, vs, SqL.of hp⟩, p, vs, v, rfl, rfl, hp, hv, ?_⟩
  exact hg x v σ _ _ (Rp.mono (a.set trivial : At G (upd H p (.lst vs.dropLast)) _).ex rv) fun σ2 q => k σ2 (a.set trivial) q
theorem st_drop {m : Option A} {x : A} (h : EvB K te σ H m) (hm : m = some x) (k : forall H2, Gx H H2 -> u X σ H2) : tSeq (tDrop te) u X σ H := h x hm H Gx.rfl _ fun _ H2 e _ => k H2 e
theorem st_retO {m : Option A} {x : A} (h : EvO K te σ G H m) (hm : m = some x) (a : At G H L) (k : forall v G2 H2, Gx G G2 -> Gx H H2 -> At G2 H2 L -> rp K G2 v x -> X.rt v H2) : tRet te X σ H :=
  h x hm G H L Gx.rfl Gx.rfl a _ k
theorem st_if {m : Option Bool} {b : Bool} (h : EvT tt σ H m) (hm : m = some b) (k1 : b = true -> forall H2, Gx H H2 -> t1 { X with nx := u X } σ H2) (k2 : b = false -> forall H2, Gx H H2 -> t2 { X with nx := u X } σ H2) : tSeq (tIfS tt t1 t2) u X σ H :=
  h b hm H Gx.rfl _ fun H2 e => by
    cases b with
    | true => exact ite_tt (k1 rfl H2 e)
    | false => exact ite_ff (k2 rfl H2 e)
/-- an if at a block's end -/
theorem s1_if {m : Option Bool} {b : Bool} (h : EvT tt σ H m) (hm : m = some b) (k1 : b = true -> forall H2, Gx H H2 -> t1 X σ H2) (k2 : b = false -> forall H2, Gx H H2 -> t2 X σ H2) : tIfS tt t1 t2 X σ H :=
  h b hm H Gx.rfl _ fun H2 e => by
    cases b with
    | true => exact ite_tt (k1 rfl H2 e)
    | false => exact ite_ff (k2 rfl H2 e)
theorem st_one (h : tSeq t1 tNext X σ H) : t1 X σ H := h
theorem st_aug {f : Int -> Int -> Int} {m : Option Int} {x y : Int} (hx : σ[i]? = some (some (.int x))) (h : EvB K te σ H m) (hm : m = some y) (k : forall H2, Gx H H2 -> u X (σ.set i (some (.int (f x y)))) H2) : tSeq (tAug i te (ipI f)) u X σ H :=
  ⟨.int x, hx, h y hm H Gx.rfl _ fun v H2 e r => ⟨x, y, rfl, r, k H2 e⟩⟩

/-! loops -/
def bra {S R : Type} (k : S -> Option (S ⊕ R)) : S ⊕ R -> Option (S ⊕ R)
  | .inl s => k s
  | .inr r => some (.inr r)
def loopM {S I R : Type} (f : S -> I -> Option (S ⊕ R)) : S -> List I -> Option (S ⊕ R)
  | s, [] => some (.inl s)
  | s, x :: xs => (f s x).bind (bra fun s' => loopM f s' xs)
theorem st_for {I : Type} [Rp I] {wi : TI} {g : TG} {mx : Option (List I)} {xs : List I} (hi : EvI K wi σ M H mx) (hx : mx = some xs)
    (k : forall J H2, Gx H H2 -> Wk K J xs (mns H2 M) -> exists W : Nat -> Nat -> L2.St -> Hp -> Prop, (exists m, W 0 m σ H2) ∧ forall i m σ H, W i m σ H ->
      (J.stop i H ∧ u X σ H) ∨ (J.go i H ∧ exists N : L2.St -> Hp -> Prop, (forall σ' H', N σ' H' -> exists m', m' < m ∧ W (i + 1) m' σ' H') ∧ forall x H', J.yld i H x H' -> g x σ H' fun σ2 H2 => t1 { X with nx := N, ct := N, bk := u X } σ2 H2)) : tSeq (tFor wi g t1) u X σ H :=
  hi xs hx H Gx.rfl _ fun J H2 e wk => k J H2 e wk
theorem loop_run {S I R : Type} [Rp I] {J : It} {g : TG} {b : Bd I} {xs : List I} {Sh : Hp} {f : S -> I -> Option (S ⊕ R)} {s0 : S} {res : S ⊕ R} {E0 : Ends} {H2 : Hp} {E1 : L2.St -> Hp -> Prop} (wk : Wk K J xs Sh) (hl : loopM f s0 xs = some res) (hg : TgOk K g b)
    (In : S -> L2.St -> Hp -> Prop) (hS : forall s σ' H', In s σ' H' -> Gx Sh H') (h0 : In s0 σ H2)
    (hs : forall s x o σ' H' H'' σ2, x ∈ xs -> f s x = some o -> (forall r, o = .inr r -> res = .inr r) -> In s σ' H' -> Gx H' H'' -> b x σ' H'' σ2 ->
      t1 { E0 with nx := fun σ H => exists s', o = .inl s' ∧ In s' σ H, ct := fun σ H => exists s', o = .inl s' ∧ In s' σ H, bk := E1 } σ2 H'')
    (hd : forall s1 σ' H', res = .inl s1 -> In s1 σ' H' -> E1 σ' H') :
    exists W : Nat -> Nat -> L2.St -> Hp -> Prop, (exists m, W 0 m σ H2) ∧ forall i m σ H, W i m σ H ->
      (J.stop i H ∧ E1 σ H) ∨ (J.go i H ∧ exists N : L2.St -> Hp -> Prop, (forall σ' H', N σ' H' -> exists m', m' < m ∧ W (i + 1) m' σ' H') ∧ forall x H', J.yld i H x H' -> g x σ H' fun σ2 H2 => t1 { E0 with nx := N, ct := N, bk := E1 } σ2 H2) := by
  refine ⟨fun i m σ H => m = xs.length - i ∧ i ≤ xs.length ∧ exists s, In s σ H ∧ loopM f s (xs.drop i) = some res, ⟨xs.length, by simp, Nat.zero_le _, s0, h0, hl⟩, ?_⟩
  rintro i m σ' Hc ⟨rfl, hle, s, hin, hm⟩
  have gS := hS _ _ _ hin
  obtain ⟨go, stop, yld⟩ := wk
  by_cases hlt : i < xs.length
  · rw [List.drop_eq_getElem_cons hlt] at hm
    cases hf : f s xs[i] with
    | none => unfold loopM at hm; rw [hf] at hm; cases hm
    | some o =>
      have hm' : bra (fun s' => loopM f s' (xs.drop (i + 1))) o = some res := by
        unfold loopM at hm; rw [hf] at hm; exact hm
      refine .inr ⟨go i Hc hlt gS, fun σ H => exists s', o = .inl s' ∧ In s' σ H, fun σ3 H3 hN => ?_, fun v Hy hy => ?_⟩
      · obtain ⟨s', rfl, h3⟩ := hN
        exact ⟨xs.length - (i + 1), by omega, rfl, hlt, s', h3, hm'⟩
      · obtain ⟨gy, ry⟩ := yld i Hc v Hy _ gS (List.getElem?_eq_getElem hlt) hy
        refine hg _ v σ' Hy _ ry fun σ2 hσ => hs s xs[i] o σ' Hc Hy σ2 (List.getElem_mem hlt) hf (fun r er => ?_) hin gy hσ
        subst er
        exact (Option.some.inj hm').symm
  · have hi : i = xs.length := by omega
    subst hi
    rw [List.drop_length] at hm
    have e : res = .inl s := (Option.some.inj hm).symm
    exact .inl ⟨stop Hc gS, hd s σ' Hc e hin⟩
def whileM {S R : Type} (c : S -> Option Bool) (f : S -> Option (S ⊕ R)) : Nat -> S -> Option (S ⊕ R)
  | 0, _ => none
  | n + 1, s => (c s).bind fun b => if b = true then (f s).bind (bra fun s' => whileM c f n s') else some (.inl s)
theorem st_while {S R : Type} {c : S -> Option Bool} {f : S -> Option (S ⊕ R)} {n : Nat} {s0 : S} {res : S ⊕ R} (hl : whileM c f n s0 = some res) (In : S -> L2.St -> Hp -> Prop) (h0 : In s0 σ H)
    (hc : forall s σ' H', In s σ' H' -> EvT tt σ' H' (c s))
    (hs : forall s o σ' H' H'', c s = some true -> f s = some o -> (forall r, o = .inr r -> res = .inr r) -> In s σ' H' -> Gx H' H'' ->
      t1 { X with nx := fun σ H => exists s', o = .inl s' ∧ In s' σ H, ct := fun σ H => exists s', o = .inl s' ∧ In s' σ H, bk := u X } σ' H'')
    (hd : forall s1 σ' H' H'', res = .inl s1 -> In s1 σ' H' -> Gx H' H'' -> u X σ' H'') : tSeq (tWhile tt t1) u X σ H := by
  refine ⟨fun m σ H => exists s, In s σ H ∧ whileM c f m s = some res, ⟨n, s0, h0, hl⟩, ?_⟩
  rintro m σ' Hc ⟨s, hin, hm⟩
  cases m with
  | zero => cases hm
  | succ m =>
    unfold whileM at hm
    cases hb : c s with
    | none => rw [hb] at hm; cases hm
    | some b =>
      rw [hb] at hm
      refine hc s σ' Hc hin b hb Hc Gx.rfl _ fun H3 g3 => ?_
      cases b with
      | false =>
        have e : res = .inl s := (Option.some.inj (show some (Sum.inl s) = some res from hm)).symm
        exact ite_ff (hd s σ' Hc H3 e hin g3)
      | true =>
        refine ite_tt ?_
        cases hf : f s with
        | none => rw [hf] at hm; cases hm
        | some o =>
          have hm' : bra (fun s' => whileM c f m s') o = some res := by rw [hf] at hm; exact hm
          refine ⟨fun σ H => exists s', o = .inl s' ∧ In s' σ H, fun σ3 H4 hN => ?_, hs s o σ' Hc H3 hb hf (fun r er => ?_) hin g3⟩
          · obtain ⟨s', rfl, h3⟩ := hN
            exact ⟨m, by omega, s', h3, hm'⟩
          · subst er
            exact (Option.some.inj hm').symm

/-! defs -/
/-- what comes leans on tuples alone; a new list comes -/
def PSb {R : Type} [Rp R] (K : Fg) (m : List V -> Hp -> Option R -> Prop) : Sp := fun vs H Q _ => exists r, m vs H (some r) ∧ forall w H2, Gx H H2 -> rp K H2 w r -> Q w H2
def PSn {R : Type} [Rp R] (K : Fg) (m : List V -> Hp -> Option (List R) -> Prop) : Sp := fun vs H Q _ => exists r, m vs H (some r) ∧ forall p ws H2, H p = none -> Gx H H2 -> H2 p = some (.lst ws) -> Al (rp K H2) ws r -> Q (.ref p) H2
def A1 {A R : Type} [Rp A] (K : Fg) (f : A -> Option R) : List V -> Hp -> Option R -> Prop := fun vs H o => exists v x, vs = [v] ∧ rp K H v x ∧ f x = o
def A2 {A B R : Type} [Rp A] [Rp B] (K : Fg) (f : A -> B -> Option R) : List V -> Hp -> Option R -> Prop := fun vs H o => exists v w x y, vs = [v, w] ∧ rp K H v x ∧ rp K H w y ∧ f x y = o
def A3 {A B C R : Type} [Rp A] [Rp B] [Rp C] (K : Fg) (f : A -> B -> C -> Option R) : List V -> Hp -> Option R -> Prop := fun vs H o => exists v1 v2 v3 x y z, vs = [v1, v2, v3] ∧ rp K H v1 x ∧ rp K H v2 y ∧ rp K H v3 z ∧ f x y z = o
def A4 {A B C D R : Type} [Rp A] [Rp B] [Rp C] [Rp D] (K : Fg) (f : A -> B -> C -> D -> Option R) : List V -> Hp -> Option R -> Prop := fun vs H o => exists v1 v2 v3 v4 x y z w, vs = [v1, v2, v3, v4] ∧ rp K H v1 x ∧ rp K H v2 y ∧ rp K H v3 z ∧ rp K H v4 w ∧ f x y z w = o
def A5 {A B C D E R : Type} [Rp A] [Rp B] [Rp C] [Rp D] [Rp E] (K : Fg) (f : A -> B -> C -> D -> E -> Option R) : List V -> Hp -> Option R -> Prop := fun vs H o => exists v1 v2 v3 v4 v5 x y z w e, vs = [v1, v2, v3, v4, v5] ∧ rp K H v1 x ∧ rp K H v2 y ∧ rp K H v3 z ∧ rp K H v4 w ∧ rp K H v5 e ∧ f x y z w e = o
def o4 {A B C D R : Type} (f : A -> B -> C -> D -> Option R) (ma : Option A) (mb : Option B) (mc : Option C) (md : Option D) : Option R := ma.bind fun a => mb.bind fun b => mc.bind fun c => md.bind fun d => f a b c d
theorem o4s {A B C D R : Type} {f : A -> B -> C -> D -> Option R} {ma : Option A} {mb : Option B} {mc : Option C} {md : Option D} {r : R} (h : o4 f ma mb mc md = some r) : exists a b c d, ma = some a ∧ mb = some b ∧ mc = some c ∧ md = some d ∧ f a b c d = some r := by
  cases ma with
  | none => cases h
  | some a => cases mb with
    | none => cases h
    | some b => cases mc with
      | none => cases h
      | some c => cases md with
        | none => cases h
        | some d => exact ⟨a, b, c, d, rfl, rfl, rfl, rfl, h⟩
/-- the arguments: what they come to, read -/
def EvM {R : Type} (t : TA) (σ : L2.St) (H : Hp) (m : List V -> Hp -> Option R -> Prop) (o : Option R) : Prop := forall r, o = some r -> forall H1, Gx H H1 -> forall Q : List V -> Hp -> Prop, (forall vs H2, Gx H1 H2 -> m vs H2 (some r) -> Q vs H2) -> t σ H1 Q
variable {td tf : TE} {R : Type} {E' : Type} [Rp E']
theorem em1 {f : A -> Option R} {ma : Option A} (ha : EvB K ta σ H ma) : EvM (tCons ta tNil) σ H (A1 K f) (o1 f ma) := fun r hr H1 e Q q => by
  obtain ⟨x, e1, e3⟩ := o1s hr
  exact ha x e1 H1 e _ fun v H2 g2 r2 => q _ H2 g2 ⟨v, x, rfl, r2, e3⟩
theorem em2 {f : A -> B -> Option R} {ma : Option A} {mb : Option B} (ha : EvB K ta σ H ma) (hb : EvB K tb σ H mb) : EvM (tCons ta (tCons tb tNil)) σ H (A2 K f) (o2 f ma mb) := fun r hr H1 e Q q => by
  obtain ⟨x, y, e1, e2, e3⟩ := o2s hr
  exact ha x e1 H1 e _ fun v H2 g2 r2 => hb y e2 H2 (e.trans g2) _ fun w H3 g3 r3 => q _ H3 (g2.trans g3) ⟨v, w, x, y, rfl, Rp.mono g3 r2, r3, e3⟩
theorem em3 {f : A -> B -> C -> Option R} {ma : Option A} {mb : Option B} {mc : Option C} (ha : EvB K ta σ H ma) (hb : EvB K tb σ H mb) (hc : EvB K tc σ H mc) : EvM (tCons ta (tCons tb (tCons tc tNil))) σ H (A3 K f) (o3 f ma mb mc) := fun r hr H1 e Q q => by
  obtain ⟨x, y, z, e1, e2, e2', e3⟩ := o3s hr
  exact ha x e1 H1 e _ fun v H2 g2 r2 => hb y e2 H2 (e.trans g2) _ fun w H3 g3 r3 => hc z e2' H3 ((e.trans g2).trans g3) _ fun w3 H4 g4 r4 => q _ H4 ((g2.trans g3).trans g4) ⟨v, w, w3, x, y, z, rfl, Rp.mono (g3.trans g4) r2, Rp.mono g4 r3, r4, e3⟩
theorem em4 {f : A -> B -> C -> D -> Option R} {ma : Option A} {mb : Option B} {mc : Option C} {md : Option D} (ha : EvB K ta σ H ma) (hb : EvB K tb σ H mb) (hc : EvB K tc σ H mc) (hd : EvB K td σ H md) : EvM (tCons ta (tCons tb (tCons tc (tCons td tNil)))) σ H (A4 K f) (o4 f ma mb mc md) := fun r hr H1 e Q q => by
  obtain ⟨x, y, z, w0, e1, e2, e2', e2'', e3⟩ := o4s hr
  exact ha x e1 H1 e _ fun v H2 g2 r2 => hb y e2 H2 (e.trans g2) _ fun w H3 g3 r3 => hc z e2' H3 ((e.trans g2).trans g3) _ fun w3 H4 g4 r4 => hd w0 e2'' H4 (((e.trans g2).trans g3).trans g4) _ fun w4 H5 g5 r5 => q _ H5 (((g2.trans g3).trans g4).trans g5) ⟨v, w, w3, w4, x, y, z, w0, rfl, Rp.mono ((g3.trans g4).trans g5) r2, Rp.mono (g4.trans g5) r3, Rp.mono g5 r4, r5, e3⟩
theorem eb_call [Rp R] {m : List V -> Hp -> Option R -> Prop} {o : Option R} {t : TA} {E : XK} (h : EvM t σ H m o) : EvB K (tCall (PSb K m) [] E t) σ H o := fun r hr H1 e Q q =>
  h r hr H1 e _ fun vs H2 g2 hm => ⟨r, by rw [List.append_nil]; exact hm, fun w H3 g3 r3 => q w H3 (g2.trans g3) r3⟩
theorem en_call [Rp R] {m : List V -> Hp -> Option (List R) -> Prop} {o : Option (List R)} {t : TA} {E : XK} (h : EvM t σ H m o) : EvN K (tCall (PSn K m) [] E t) σ H o := fun r hr H1 e Q q =>
  h r hr H1 e _ fun vs H2 g2 hm => ⟨r, by rw [List.append_nil]; exact hm, fun p ws H3 hp g3 h3 r3 => q p ws H3 (g2.back hp) (g2.trans g3) h3 r3⟩

/-! the ends of a def -/
theorem sr_b {m : Option A} {x : A} (h : EvB K te σ H m) (hm : m = some x) (k : forall v H2, Gx H H2 -> rp K H2 v x -> X.rt v H2) : tSeq (tRet te) u X σ H := h x hm H Gx.rfl _ k
theorem sr_n {m : Option (List A)} {x : List A} (h : EvN K te σ H m) (hm : m = some x) (k : forall p vs H2, H p = none -> Gx H H2 -> H2 p = some (.lst vs) -> Al (rp K H2) vs x -> X.rt (.ref p) H2) : tSeq (tRet te) u X σ H := h x hm H Gx.rfl _ k
theorem sr_m {p : Addr} (h : σ[i]? = some (some (.ref p))) (k : X.rt (.ref p) H) : tSeq (tRet (tVar i)) u X σ H := ⟨_, h, k⟩
/-- a new list, to be changed -/
theorem st_newM [Im A] {m : Option (List A)} {x : List A} (h : EvN K te σ H m) (hm : m = some x) (a : At G H L) (k : forall p vs G2 H2, H p = none -> Gx G G2 -> Gx H H2 -> At G2 H2 ((p, .lst vs) :: L) -> Al (rp K G2) vs x -> u X (σ.set i (some (.ref p))) H2) : tSeq (tAsg te (gName i)) u X σ H :=
  h x hm H Gx.rfl _ fun p vs H2 hp g h2 r => by
    have a2 : At G H2 ((p, .lst vs) :: L) := by
      refine ⟨a.ex.trans g, List.nodup_cons.mpr ⟨a.fresh hp, a.nd⟩, fun q hq => ?_⟩
      rcases List.mem_cons.mp hq with rfl | hq
      · exact ⟨h2, a.ex.back hp, trivial⟩
      · exact (a.grow g).led q hq
    exact k p vs (hid H2 ((p, .lst vs) :: L)) H2 hp a2.gh g a2.hid (r.mono fun _ _ => Im.im a2.tx)
/-- a fold -/
def foldO {S I : Type} (f : S -> I -> Option S) : S -> List I -> Option S
  | s, [] => some s
  | s, x :: xs => (f s x).bind fun s' => foldO f s' xs
theorem foldO_loop {S I : Type} {f : S -> I -> Option S} : forall {xs : List I} {s r : S}, foldO f s xs = some r -> loopM (R := Empty) (fun s x => (f s x).map Sum.inl) s xs = some (.inl r)
  | [], s, r, h => by cases h; rfl
  | x :: xs, s, r, h => by
    unfold foldO at h
    unfold loopM
    cases hf : f s x with
    | none => rw [hf] at h; cases h
    | some s' =>
      rw [hf] at h
      exact foldO_loop (xs := xs) h
theorem fold_run {S I : Type} [Rp I] {J : It} {g : TG} {b : Bd I} {xs : List I} {Sh : Hp} {f : S -> I -> Option S} {s0 s1 : S} {E0 : Ends} {H2 : Hp} {E1 : L2.St -> Hp -> Prop} (wk : Wk K J xs Sh) (hl : foldO f s0 xs = some s1) (hg : TgOk K g b)
    (In : S -> L2.St -> Hp -> Prop) (hS : forall s σ' H', In s σ' H' -> Gx Sh H') (h0 : In s0 σ H2)
    (hs : forall s x s' σ' H' H'' σ2, x ∈ xs -> f s x = some s' -> In s σ' H' -> Gx H' H'' -> b x σ' H'' σ2 -> t1 { E0 with nx := In s', ct := In s', bk := E1 } σ2 H'')
    (hd : forall σ' H', In s1 σ' H' -> E1 σ' H') :
    exists W : Nat -> Nat -> L2.St -> Hp -> Prop, (exists m, W 0 m σ H2) ∧ forall i m σ H, W i m σ H ->
      (J.stop i H ∧ E1 σ H) ∨ (J.go i H ∧ exists N : L2.St -> Hp -> Prop, (forall σ' H', N σ' H' -> exists m', m' < m ∧ W (i + 1) m' σ' H') ∧ forall x H', J.yld i H x H' -> g x σ H' fun σ2 H2 => t1 { E0 with nx := N, ct := N, bk := E1 } σ2 H2) := by
  refine ⟨fun i m σ H => m = xs.length - i ∧ i ≤ xs.length ∧ exists s, In s σ H ∧ foldO f s (xs.drop i) = some s1, ⟨xs.length, by simp, Nat.zero_le _, s0, h0, hl⟩, ?_⟩
  rintro i m σ' Hc ⟨rfl, hle, s, hin, hm⟩
  have gS := hS _ _ _ hin
  obtain ⟨go, stop, yld⟩ := wk
  by_cases hlt : i < xs.length
  · rw [List.drop_eq_getElem_cons hlt] at hm
    cases hf : f s xs[i] with
    | none => unfold foldO at hm; rw [hf] at hm; cases hm
    | some s' =>
      have hm' : foldO f s' (xs.drop (i + 1)) = some s1 := by
        unfold foldO at hm; rw [hf] at hm; exact hm
      refine .inr ⟨go i Hc hlt gS, In s', fun σ3 H3 hN => ⟨xs.length - (i + 1), by omega, rfl, hlt, s', hN, hm'⟩, fun v Hy hy => ?_⟩
      obtain ⟨gy, ry⟩ := yld i Hc v Hy _ gS (List.getElem?_eq_getElem hlt) hy
      exact hg _ v σ' Hy _ ry fun σ2 hσ => hs s xs[i] s' σ' Hc Hy σ2 (List.getElem_mem hlt) hf hin gy hσ
  · have hi : i = xs.length := by omega
    subst hi
    rw [List.drop_length] at hm
    cases hm
    exact .inl ⟨stop Hc gS, hd σ' Hc hin⟩
/-- behind a loop that may leave -/
def fin {S R : Type} (k : S -> Option R) : S ⊕ R -> Option R
  | .inl s => k s
  | .inr r => some r
def braR {S S' R : Type} (k : S -> Option (S' ⊕ R)) : S ⊕ R -> Option (S' ⊕ R)
  | .inl s => k s
  | .inr r => some (.inr r)
theorem bnd {A B : Type} {m : Option A} {f : A -> Option B} {r : B} (h : m.bind f = some r) : exists a, m = some a ∧ f a = some r := o1s h
end
end Pu

set_option Elab.async false
set_option linter.all false
set_option maxRecDepth 100000
set_option maxHeartbeats 1000000
namespace Pu
open Pu.Rp (rp)
open PySem PySem.Spec PyProof.Rows L2
/-! zip of three lists -/
def Itz3 (K : Fg) (a b c : Addr) : It :=
  ⟨fun i H => exists (xs ys zs : List V) (x y z : V), (SqL K H a xs ∧ SqL K H b ys ∧ SqL K H c zs) ∧ xs[i]? = some x ∧ ys[i]? = some y ∧ zs[i]? = some z,
   fun i H v H' => exists T x y z, v = .ref T ∧ H T = none ∧ H' = upd H T (.tup [x, y, z]) ∧ (forall xs, SqL K H a xs -> xs[i]? = some x) ∧ (forall ys, SqL K H b ys -> ys[i]? = some y) ∧ (forall zs, SqL K H c zs -> zs[i]? = some z),
   fun i H => exists xs ys zs : List V, (SqL K H a xs ∧ SqL K H b ys ∧ SqL K H c zs) ∧ (xs.length ≤ i ∨ ys.length ≤ i ∨ zs.length ≤ i) ∧ i ≤ xs.length ∧ i ≤ ys.length ∧ i ≤ zs.length⟩
abbrev Tn3 (a b c z TI TO i1 i2 i3 : Addr) : Nat -> Heap -> Prop := fun i h => IsZip h z TI TO .none ∧ IsTupOf3 h TI (.ref i1) (.ref i2) (.ref i3) ∧ (exists x y u, IsTupOf3 h TO x y u) ∧ h.IsListIter i1 a i ∧ h.IsListIter i2 b i ∧ h.IsListIter i3 c i
theorem tn3_ob {a b c z TI TO i1 i2 i3 : Addr} {i : Nat} {h : Heap} (t : Tn3 a b c z TI TO i1 i2 i3 i h) : forall d, d ∈ [z, TI, TO, i1, i2, i3] -> exists o, h.get? d = some o ∧ forall v, o.data ≠ .cell v := fun d hd => by
  obtain ⟨hz, hTI, ⟨x, y, u, hTO⟩, ⟨o1, e1, _, d1⟩, ⟨o2, e2, _, d2⟩, ⟨o3, e3, _, d3⟩⟩ := t
  have e' : d = z ∨ d = TI ∨ d = TO ∨ d = i1 ∨ d = i2 ∨ d = i3 := by simpa using hd
  rcases e' with q | q | q | q | q | q <;> rw [q]
  · exact ⟨_, hz, fun v q => nomatch q⟩
  · exact ⟨_, hTI, fun v q => nomatch q⟩
  · exact ⟨_, hTO, fun v q => nomatch q⟩
  · exact ⟨o1, e1, fun v q => by rw [d1] at q; cases q⟩
  · exact ⟨o2, e2, fun v q => by rw [d2] at q; cases q⟩
  · exact ⟨o3, e3, fun v q => by rw [d3] at q; cases q⟩
theorem turn_zip3 {P : Program} {w : World} {K : Fg} {elts : List Expr} {kk : Nat} {tpos : Pos} {a b c z TI TO i1 i2 i3 : Addr} (S : ZipSep3 z TI TO i1 i2 i3 [i1, a] [i2, b] [i3, c]) (ha : a ≠ i1) (hb : b ≠ i2) (hc : c ≠ i3) :
    Turn P w K (.Tuple elts kk tpos) (Itz3 K a b c) [z, TI, TO, i1, i2, i3] z (Tn3 a b c z TI TO i1 i2 i3) where
  mem := by simp
  obj := fun i h st => tn3_ob st
  keep := fun i h h' st k => by
    obtain ⟨hz, hTI, ⟨x, y, u, hTO⟩, h1, h2, h3⟩ := st
    exact ⟨k z (by simp) _ hz, k TI (by simp) _ hTI, ⟨x, y, u, k TO (by simp) _ hTO⟩, h1.at fun o q => k i1 (by simp) o q, h2.at fun o q => k i2 (by simp) o q, h3.at fun o q => k i3 (by simp) o q⟩
  item := by
    intro X hP hw hK hcalm i pins s σ H E I hf st hg
    subst hP hw hK
    obtain ⟨hz, hTI, hTO, h1, h2, h3⟩ := id st
    obtain ⟨xs, ys, zs, x, y, u, ⟨hqx, hqy, hqz⟩, hx, hy, hu⟩ := hg
    obtain ⟨its, rv, p, _⟩ := I.list hqx
    obtain ⟨its2, rv2, p2, _⟩ := I.list hqy
    obtain ⟨its3, rv3, p3, _⟩ := I.list hqz
    have hh : X.A.in1.handled = none := by simpa using I.ok.hd hcalm
    have W := GoesN.zip3 (prog := X.prog) (w := X.w) (A := X.A) (elts := elts) (x1 := kk) (pos := tpos) S (Draws.list hh i1 a ha its.toArray) (Draws.list hh i2 b hb its2.toArray) (Draws.list hh i3 c hc its3.toArray)
    have l1 : i < its.toArray.size := by
      have := (List.getElem?_eq_some_iff.mp hx).1
      rw [rv.length] at this
      simpa using this
    have l2 : i < its2.toArray.size := by
      have := (List.getElem?_eq_some_iff.mp hy).1
      rw [rv2.length] at this
      simpa using this
    have l3 : i < its3.toArray.size := by
      have := (List.getElem?_eq_some_iff.mp hu).1
      rw [rv3.length] at this
      simpa using this
    have hall : forall d, d ∈ [z, TI, TO, i1, i2, i3] -> d < s.heap.objs.size := fun d hd => by
      obtain ⟨o, e, _⟩ := tn3_ob st d hd
      exact Heap.lt_size e
    refine thn (W.goes i s (fun v s2 => exists x' H', Inv X pins σ H' s2 ∧ RelV x' v ∧ (Itz3 X.K a b c).yld i H x' H' ∧ Tn3 a b c z TI TO i1 i2 i3 (i + 1) s2.heap ∧ forall d, d ∈ [z, TI, TO, i1, i2, i3] -> H' d = none) E (by omega) ⟨hz, hTI, hTO, ⟨h1, p.isList⟩, ⟨h2, p2.isList⟩, ⟨h3, p3.isList⟩⟩ fun v h' tk hY st' hk htk => ?_) fun r s1 hr => hr
    obtain ⟨T, x1, y1, u1, rfl, hT, q1, q2, q3, hTt⟩ := hY
    obtain ⟨hz', hTI', hTO', ⟨h1', _⟩, ⟨h2', _⟩, ⟨h3', _⟩⟩ := st'
    obtain ⟨v1, e1, r1⟩ := rv.get hx
    obtain ⟨v2, e2, r2⟩ := rv2.get hy
    obtain ⟨v3, e3, r3⟩ := rv3.get hu
    have f1 : v1 = x1 := by
      have : its.toArray[i]? = some v1 := by simpa using e1
      rw [q1] at this; exact (Option.some.inj this).symm
    have f2 : v2 = y1 := by
      have : its2.toArray[i]? = some v2 := by simpa using e2
      rw [q2] at this; exact (Option.some.inj this).symm
    have f3 : v3 = u1 := by
      have : its3.toArray[i]? = some v3 := by simpa using e3
      rw [q3] at this; exact (Option.some.inj this).symm
    subst f1 f2 f3
    have new : ObjOk X.prog X.w (upd H T (.tup [x, y, u])) h' T (.tup [x, y, u]) := ⟨by show 3 ≤ sizeLine; decide, [v1, v2, v3], .cons r1 (.cons r2 (.cons r3 .nil)), hTt⟩
    have I1 : Inv X pins σ (upd H T (.tup [x, y, u])) { s with heap := h', toks := tk } :=
      I.turnedNew (t' := tk) (ch := [z, TI, TO, i1, i2, i3]) (fun d o hd q => hk d o (fun z' => hd (by
        simp only [List.mem_cons, List.not_mem_nil, or_false] at z' ⊢
        rcases z' with e | e | e | e | e <;> simp [e])) q) hf hT new
    refine ⟨.ref T, _, I1, rfl, ⟨T, x, y, u, rfl, I.hok.fresh hT, rfl, fun l hl => by rw [I.list_inj hl hqx]; exact hx, fun l hl => by rw [I.list_inj hl hqy]; exact hy, fun l hl => by rw [I.list_inj hl hqz]; exact hu⟩, ⟨hz', hTI', hTO', h1', h2', h3'⟩, fun d hd => ?_⟩
    rw [upd_ne (Nat.ne_of_lt (Nat.lt_of_lt_of_le (hall d hd) hT))]
    exact (hf d hd).1
  done := by
    intro X hP hw hK hcalm i pins s σ H E I hf st hg
    subst hP hw hK
    obtain ⟨hz, hTI, hTO, h1, h2, h3⟩ := id st
    obtain ⟨xs, ys, zs, ⟨hqx, hqy, hqz⟩, hend, b1, b2, b3⟩ := hg
    obtain ⟨its, rv, p, _⟩ := I.list hqx
    obtain ⟨its2, rv2, p2, _⟩ := I.list hqy
    obtain ⟨its3, rv3, p3, _⟩ := I.list hqz
    have hh : X.A.in1.handled = none := by simpa using I.ok.hd hcalm
    have W := GoesN.zip3 (prog := X.prog) (w := X.w) (A := X.A) (elts := elts) (x1 := kk) (pos := tpos) S (Draws.list hh i1 a ha its.toArray) (Draws.list hh i2 b hb its2.toArray) (Draws.list hh i3 c hc its3.toArray)
    have hi : i = min (min its.toArray.size its2.toArray.size) its3.toArray.size := by
      rw [List.size_toArray, List.size_toArray, List.size_toArray, ← rv.length, ← rv2.length, ← rv3.length]
      omega
    refine W.stops s _ E (hi ▸ ⟨hz, hTI, hTO, ⟨h1, p.isList⟩, ⟨h2, p2.isList⟩, ⟨h3, p3.isList⟩⟩) fun h' tk hk htk => ?_
    exact I.turnedL (t' := tk) (ch := [z, TI, TO, i1, i2, i3]) (fun d o hd q => hk d o (fun z' => hd (by
        simp only [List.mem_cons, List.not_mem_nil, or_false] at z' ⊢
        rcases z' with e | e | e | e | e <;> simp [e])) q) hf
  self := fun A i s Q E st h => wpAny_pyIter_zip st.1 h
def iZip3 (K : Fg) (ta : TA) : TI := fun σ H R => ta σ H fun vs H1 => exists a b c xs ys zs, vs = [.ref a, .ref b, .ref c] ∧ (SqL K H1 a xs ∧ SqL K H1 b ys ∧ SqL K H1 c zs) ∧ R (Itz3 K a b c) H1
theorem pi_zip3 {X : Cx} {e e2 e3 : Expr} {ta : TA} {p pos tpos : Pos} {elts : List Expr} {kk : Nat} (hg : Gl X "zip") (hm : X.mg "zip" = none) (ha : PA X [e, e2, e3] ta)
    (hs : starEach [e, e2, e3] X.env = (false, eval e X.env) :: starEach [e2, e3] X.env := by rfl) (hpl : (backTo pos (starEach [e2, e3] X.env)).any (·.1) = false := by rfl) :
    PI X (.Tuple elts kk tpos) (.Call (.Name "zip" p) [e, e2, e3] [] pos) (iZip3 X.K ta) := by
  refine ⟨fun pins s σ H R I h => ?_⟩
  refine Call_ (ld_blt I hg hm PyProof.Rows.boot_zip (PyProof.Rows.callWith_type1 (thn (ha.run pos pins s σ H _ I h) fun us s1 q => ?_) hs hpl))
  obtain ⟨vs, H1, I1, r1, a, b, c, xs, ys, zs, ex, ⟨hqx, hqy, hqz⟩, q⟩ := q
  subst ex
  obtain ⟨u1, us1, rfl, ru1, r1⟩ : exists u1 us1, us = u1 :: us1 ∧ RelV (.ref a) u1 ∧ Vals [.ref b, .ref c] us1 := by cases r1 with | cons r rr => exact ⟨_, _, rfl, r, rr⟩
  obtain ⟨u2, us2, rfl, ru2, r1⟩ : exists u1 us2, us1 = u1 :: us2 ∧ RelV (.ref b) u1 ∧ Vals [.ref c] us2 := by cases r1 with | cons r rr => exact ⟨_, _, rfl, r, rr⟩
  obtain ⟨u3, us3, rfl, ru3, r1⟩ : exists u1 us3, us2 = u1 :: us3 ∧ RelV (.ref c) u1 ∧ Vals [] us3 := by cases r1 with | cons r rr => exact ⟨_, _, rfl, r, rr⟩
  cases r1
  cases ru1; cases ru2; cases ru3
  obtain ⟨its, rv, p1, _⟩ := I1.list hqx
  obtain ⟨its2, rv2, p2, _⟩ := I1.list hqy
  obtain ⟨its3, rv3, p3, _⟩ := I1.list hqz
  have la : a < s1.heap.objs.size := p1.lt
  have lb : b < s1.heap.objs.size := p2.lt
  have lc : c < s1.heap.objs.size := p3.lt
  refine zip_begins3 (begins_list a its.toArray) (begins_list b its2.toArray) (begins_list c its3.toArray) p1.isList p2.isList p3.isList fun h' hz hTI hTO g1 g2 g3 hsz hk => wpAny_pyIter_zip hz ?_
  have I2 : Inv X pins σ H1 { s1 with heap := h' } := I1.kept (t' := s1.toks) hk
  have sep := zip_sep3 (N := s1.heap.objs.size) (fp1 := [a]) (fp2 := [b]) (fp3 := [c]) (by simpa using la) (by simpa using lb) (by simpa using lc)
  have n : forall k, s1.heap.objs.size ≤ s1.heap.objs.size + k := fun k => Nat.le_add_right _ k
  refine ⟨s1.heap.objs.size + 5, [s1.heap.objs.size + 5, s1.heap.objs.size + 3, s1.heap.objs.size + 4, s1.heap.objs.size, s1.heap.objs.size + 1, s1.heap.objs.size + 2], _, _, H1, rfl, I2,
    turn_zip3 (a := a) (b := b) (c := c) sep (Nat.ne_of_lt la) (Nat.ne_of_lt (Nat.lt_succ_of_lt lb)) (Nat.ne_of_lt (Nat.lt_of_lt_of_le lc (n 2))), ⟨hz, hTI, ⟨_, _, _, hTO⟩, ⟨_, g1, rfl, rfl⟩, ⟨_, g2, rfl, rfl⟩, ⟨_, g3, rfl, rfl⟩⟩, fun d hd => ?_, q⟩
  have hle : s1.heap.objs.size ≤ d := by
    simp only [List.mem_cons, List.not_mem_nil, or_false] at hd
    rcases hd with e | e | e | e | e | e <;> rw [e] <;> first | exact Nat.le_refl _ | exact n _
  exact I1.fpOk hle (I1.hok.fresh hle)
/-! set of a list of ints -/
def rSetL1 (w : World) : List V -> Hp -> VK -> Prop := fun xs H Q => exists (l : Addr) (ns : List Int), xs = [.ref l] ∧ H l = some (.lst (ns.map V.int)) ∧ ns.length ≤ 1000 ∧ forall (a : Addr) (c : Nat), H a = none -> c ≤ ns.length -> Q (.ref a) (upd H a (SetO w a (fun j => decide (j ∈ ns)) c))
end Pu

set_option Elab.async false
set_option linter.all false
set_option maxRecDepth 100000
set_option maxHeartbeats 4000000
namespace Pu
open Pu.Rp (rp)
open PySem PySem.Spec PyProof.Rows L2
/-- the empty set's object -/
abbrev noS (w : World) : Obj := { cls := .type "set", dict := none, data := .set #[] 0 (.fresh 0 0 (!w.params.followText "set-order")) }
abbrev hpS (w : World) (s : Shared) : Heap := s.heap.push (noS w)
/-- what set(..) comes to -/
def SetEnd (w : World) (s : Shared) (ns : List Int) (r : Value) (s2 : Shared) : Prop := r = .none ∧ exists h' tk c, s2 = { s with heap := h', toks := tk } ∧ SetR w h' s.heap.objs.size (fun j => decide (j ∈ ns)) c ∧ c ≤ ns.length ∧ forall b o, s.heap.get? b = some o -> h'.get? b = some o
theorem setL_val {items : Array Value} {ns : List Int} (hit : IntsAre items.toList ns) (hz : items.size = ns.length) : forall (i : Nat) (v : Value), items[i]? = some v -> exists k t, ns[i]? = some k ∧ v = .int k t := fun i v hv => by
  have hi : i < ns.length := hz ▸ (Array.getElem?_eq_some_iff.mp hv).1
  obtain ⟨t, e⟩ := PyProof.Rows.IntsAre.int_at hit i v (by simpa using hv)
  refine ⟨ns[i], t, List.getElem?_eq_getElem hi, e.trans ?_⟩
  rw [List.getD_eq_getElem?_getD, List.getElem?_eq_getElem hi]
  rfl
section
variable {P : Program} {w : World} {A : Around} {E : Value → Shared → Prop} {s : Shared}
theorem setL_init {l : Addr} {items : Array Value} (ns : List Int) {A3 : Around} (hh : A3.in1.handled = none) (hl : s.heap.IsList l items) (hit : IntsAre items.toList ns) (hz : items.size = ns.length) (hb : ns.length + 1 < scanBound) :
    codeAny (model P w) A3 (.builtin "set.update.loop" ⟨[.ref s.heap.objs.size, .ref (hpS w s).objs.size], []⟩) (wants (SetEnd w s ns) E) { s with heap := (hpS w s).push { cls := .type "list_iterator", data := .fields #[.ref l, .int 0 0] } } := by
  have hlt : l < s.heap.objs.size := by
    obtain ⟨o, ho, _⟩ := id hl
    exact Heap.lt_size ho
  have z1 : (hpS w s).objs.size = s.heap.objs.size + 1 := Heap.size_push ..
  have hl1 : (hpS w s).IsList l items := hl.push _
  have ne1 : l ≠ (hpS w s).objs.size := by rw [z1]; exact Nat.ne_of_lt (Nat.lt_succ_of_lt hlt)
  have nf : s.heap.objs.size ∉ [(hpS w s).objs.size, l] := by
    rw [z1]
    intro z
    simp only [List.mem_cons, List.not_mem_nil, or_false] at z
    rcases z with z | z
    · exact absurd z (Nat.ne_of_lt (Nat.lt_succ_self _))
    · exact absurd z (Nat.ne_of_gt hlt)
  have g0 : (hpS w s).get? s.heap.objs.size = some (noS w) := Heap.get?_push_size _ rfl
  refine set_update_ints ((Walks.list hh _ l ne1 items).toS) s.heap.objs.size nf ns hz hb (setL_val hit hz) (items.size - 0) 0 _ (by omega) (Nat.zero_le _) ⟨⟨_, Heap.get?_push_size _ rfl, rfl, rfl⟩, hl1.push _⟩
    ⟨0, Nat.le_refl 0, setR_new_at (Heap.get?_push_of_some _ g0)⟩ fun s' c hm hc hS => ?_
  obtain ⟨h', g2, d', tk', os'⟩ := s'
  obtain rfl : g2 = s.gens := hm.gens
  obtain rfl : d' = s.drawn := hm.drawn
  obtain rfl : os' = s.os := hm.os
  show SetEnd w s ns _ _
  refine ⟨rfl, h', tk', c, rfl, hS, by omega, fun b o e => hm.heap b o (fun z => ?_) (Heap.get?_push_of_some _ (Heap.get?_push_of_some _ e))⟩
  have hbl : b < s.heap.objs.size := Heap.lt_size e
  simp only [List.mem_cons, List.not_mem_nil, or_false] at z
  rcases z with z | z
  · exact absurd hbl (by rw [z]; exact Nat.lt_irrefl _)
  · rw [z1] at z
    exact absurd hbl (by rw [z]; exact Nat.not_lt_of_le (Nat.le_succ _))
set_option maxHeartbeats 8000000 in
theorem call_setL {l : Addr} {items : Array Value} (ns : List Int) {Q : Value → Shared → Prop} (hh : A.handled = none) (hl : s.heap.IsList l items) (hit : IntsAre items.toList ns) (hb : ns.length + 1 < scanBound)
    (h : forall (h' : Heap) (tk c : Nat), SetR w h' s.heap.objs.size (fun j => decide (j ∈ ns)) c -> c ≤ ns.length -> (forall b o, s.heap.get? b = some o -> h'.get? b = some o) -> Q (.ref s.heap.objs.size) { s with heap := h', toks := tk }) :
    wpAny (model P w) A (call (.type "set") [.ref l]) Q E s := by
  have hz : items.size = ns.length := by simpa using IntsAre.length hit
  obtain ⟨c0, tl, hmro⟩ := F.called_set.mro
  have k1 := F.called_set.made
  have k2 := F.called_set.sub
  have k3 := F.called_set.notType
  have k4 := F.called_set.canCreate
  have k5 := F.typeCall_set_1 (.ref l)
  refine wpAny_call (codeAny_of_tree (show wpAny _ _ (callAny (.type "set") _) _ _ _ from wpAny_pure ⟨Code.quiet_builtin _ (by decide +kernel), codeAny_builtin F.entry_type_call ?_⟩))
  rw [Around.under_plain (weight_type_call_type "set" [.ref l] []) rfl]
  repeat (any_goals (first | assumption | wp_step))
  refine codeAny_mono (code_set_led1 (.ref l) (E := E) (Q₁ := fun obj s1 => obj = .ref s.heap.objs.size ∧ s1 = { s with heap := hpS w s }) ⟨rfl, rfl⟩) fun r s1 hr => ?_
  match r, hr with
  | .ok (.ret obj), ⟨e1, e2⟩ =>
    subst e1 e2
    have hT : Shared.TypeIs { s with heap := hpS w s } (.ref s.heap.objs.size) "set" := ⟨noS w, Heap.get?_push_size _ rfl, rfl⟩
    have k6 := F.called_set.init.lookup
    have k7 := F.called_set.init.bind (.ref s.heap.objs.size)
    repeat (any_goals (first | assumption | wp_step))
    refine codeAny_mono (codeAny_call_builtin (R := wants (SetEnd w s ns) E) F.called_set.init.plain F.entry_set_init (check_set_init_1 hT ?_)) fun r2 s2 hr2 => ?_
    · have hl1 : (hpS w s).IsList l items := hl.push _
      obtain ⟨ol, hol, hcl, nl, hdl⟩ := id hl1
      obtain ⟨ocls, odict, odata, oslots⟩ := ol
      simp only at hcl hdl
      subst hcl; subst hdl
      have j1 := F.sub_list_set
      have j2 := F.sub_list_frozenset
      have j3 : (Value.type "list" == Value.type "dict") = false := by decide
      unfold Builtin.«set.__init__» noKeywords Builtin.Frozenset.updateFrom
      generalize hPI : pyIter = PI
      wp_walk
      subst hPI
      refine wpAny_pyIter_list hl1 (wpAny_bind (wpAny_runValue ?_))
      refine codeAny_mono (setL_init (P := P) (w := w) (E := E) (s := s) ns (by simp [hh]) hl hit hz hb) fun r3 s3 hr3 => ?_
      match r3, hr3 with
      | .ok (.ret v), hr3 =>
        obtain ⟨rfl, h3⟩ := hr3
        exact wpAny_pure (wpAny_pure ⟨rfl, h3⟩)
      | .error e, hr3 => exact hr3
      | .ok .next, hr3 => exact hr3.elim
      | .ok .brk, hr3 => exact hr3.elim
      | .ok .cont, hr3 => exact hr3.elim
    · match r2, hr2 with
      | .ok (.ret v), hr2 =>
        obtain ⟨rfl, h', tk, c, rfl, hS, hc, hk⟩ := hr2
        repeat (any_goals (first | assumption | wp_step))
        exact h _ _ _ hS hc hk
      | .error e, hr2 => exact hr2
      | .ok .next, hr2 => exact hr2.elim
      | .ok .brk, hr2 => exact hr2.elim
      | .ok .cont, hr2 => exact hr2.elim
  | .error e, hr => exact hr
  | .ok .next, hr => exact hr.elim
  | .ok .brk, hr => exact hr.elim
  | .ok .cont, hr => exact hr.elim
end
section
variable {X : Cx}
theorem cr_setL (hc : X.calm = true) : CallR X (.type "set") (rSetL1 X.w) := by
  intro pins s σ H vs us Q I r h
  obtain ⟨l, ns, rfl, hl, hz, q⟩ := h
  rw [Vals.ref1 r]
  obtain ⟨its, rv, p, _⟩ := I.list (SqL.of hl)
  refine call_setL ns (I.ok.hd hc) p.isList (by simpa using rv.ints) (by unfold scanBound; omega) fun h' tk c R hcl hk => ?_
  have hn : H s.heap.objs.size = none := I.hok.fresh (Nat.le_refl _)
  exact ⟨.ref _, _, I.laid (t' := tk) hk (Nat.le_refl _) (setO_new R), rfl, q _ c hn hcl⟩
end
end Pu

set_option Elab.async false
set_option linter.all false
set_option maxRecDepth 100000
namespace Pu
open Pu.Rp (rp)
open PySem PySem.Spec PyProof.Rows L2
/-! xs[lo:hi:st], st a written number above 0 -/
def tSl3 (te : TE) (tl th : TO) (st : Nat) : TE := fun σ H Q => te σ H fun x H1 => tl σ H1 fun l H2 => th σ H2 fun u H3 => exists a xs, x = .ref a ∧ H3 a = some (.lst xs) ∧
  forall p, H3 p = none -> Q (.ref p) (upd H3 p (.lst ((sliceRange (sliceBounds l u (some (st : Int)) xs.length).1 (sliceBounds l u (some (st : Int)) xs.length).2.1 (sliceBounds l u (some (st : Int)) xs.length).2.2).filterMap (xs[·]?))))
theorem vals_pick {vs : List V} {us : List Value} (r : Vals vs us) : forall ks : List Nat, Vals (ks.filterMap (vs[·]?)) (ks.filterMap (us[·]?))
  | [] => .nil
  | k :: ks => by
    have ih := vals_pick r ks
    cases e : vs[k]? with
    | none =>
      have e2 := r.none_of e
      rw [List.filterMap_cons_none e, List.filterMap_cons_none e2]
      exact ih
    | some v =>
      obtain ⟨u, hu, ru⟩ := r.get e
      rw [List.filterMap_cons_some e, List.filterMap_cons_some hu]
      exact .cons ru ih
theorem pe_slice3 {X : Cx} {e : Expr} {lo hi : Option Expr} {te : TE} {tl th : TO} {n : Nat} {k : Nat} {p1 p2 pos : Pos} (hn : n ≠ 0) (he : PE X e te) (hl : PO X lo tl) (hh : PO X hi th) : PE X (.Subscript e (.Slice lo hi (some (.Constant (.int (n : Int)) k p1)) p2) pos) (tSl3 te tl th n) := by
  refine ⟨fun pins s σ H Q I h => ?_⟩
  refine Subscript_ (thn (he.run pins s σ H _ I h) fun v s1 ⟨x, H1, I1, r1, q1⟩ => ?_)
  have hst : PO X (some (.Constant (.int (n : Int)) k p1)) (tPart (tC (.int (n : Int)))) := po_some pe_int
  refine wpAny_Slice (thn (hl.run pins s1 σ H1 _ I1 q1) fun vl s2 ⟨l, H2, I2, pl, q2⟩ => thn (hh.run pins s2 σ H2 _ I2 q2) fun vu s3 ⟨u, H3, I3, pu, q3⟩ => ?_)
  refine thn (hst.run pins s3 σ H3 (fun o H4 => o = some (n : Int) ∧ H4 = H3) I3 ⟨_, rfl, rfl, rfl⟩) fun vs s4 ⟨o, H4, I4, ps, eo, e4⟩ => ?_
  subst eo e4
  obtain ⟨a, xs, ex, hx, q⟩ := q3
  subst ex
  cases r1
  have I5 : Inv X pins σ H4 { s4 with heap := s4.heap.push { cls := .type "slice", data := .fields #[vl, vu, vs] } } := I4.kept (t' := s4.toks) fun b ob q => Heap.get?_push_of_some _ q
  obtain ⟨its, r, ht, hz⟩ := I5.list (SqL.of hx)
  have hsl : (s4.heap.push { cls := .type "slice", data := .fields #[vl, vu, vs] }).IsSliceOf s4.heap.objs.size vl vu vs := Heap.IsSliceOf.new ..
  refine tail_any (ops := [.ref a, .ref s4.heap.objs.size]) ht.isList.typeIs (PySem.slot_list_getitem.lookup) ?_ (by with_unfolding_all rfl)
  have hz2 : its.toArray.size ≤ sizeLine := by rw [List.size_toArray, ← r.length]; exact hz
  refine wpAny_getItem_list_slice ht.isList hsl pl pu ps (fun z => hn (by have := Option.some.inj z; omega)) ?_ hz2
  have hl2 : its.length = xs.length := r.length.symm
  have epk : slicePick its.toArray l u (some (n : Int)) = ((sliceRange (sliceBounds l u (some (n : Int)) xs.length).1 (sliceBounds l u (some (n : Int)) xs.length).2.1 (sliceBounds l u (some (n : Int)) xs.length).2.2).filterMap (its[·]?)).toArray := by
    unfold slicePick
    rw [List.size_toArray, hl2]
    congr 2
    funext i
    simp
  have hsz := slicePick_size_le its.toArray l u (some (n : Int))
  rw [epk] at hsz ⊢
  have rv := vals_pick r (sliceRange (sliceBounds l u (some (n : Int)) xs.length).1 (sliceBounds l u (some (n : Int)) xs.length).2.1 (sliceBounds l u (some (n : Int)) xs.length).2.2)
  refine ⟨.ref _, _, I5.laid (t' := s4.toks) (fun b ob q => Heap.get?_push_of_some _ q) (Nat.le_refl _) ?_, rfl, q _ (I5.hok.fresh (Nat.le_refl _))⟩
  exact ⟨by rw [rv.length]; rw [List.size_toArray] at hsz; exact Nat.le_trans hsz hz2, _, 0, rv, Heap.get?_push_size _ rfl⟩
/-- what a slice with a step picks -/
def stepM {A : Type} (xs : List A) (lo hi : Option Int) (st : Nat) : List A := (sliceRange (sliceBounds lo hi (some (st : Int)) xs.length).1 (sliceBounds lo hi (some (st : Int)) xs.length).2.1 (sliceBounds lo hi (some (st : Int)) xs.length).2.2).filterMap (xs[·]?)
theorem al_pick {A : Type} {F : V -> A -> Prop} {vs : List V} {xs : List A} (r : Al F vs xs) : forall ks : List Nat, Al F (ks.filterMap (vs[·]?)) (ks.filterMap (xs[·]?))
  | [] => trivial
  | k :: ks => by
    have ih := al_pick r ks
    cases e : vs[k]? with
    | none =>
      have h1 := List.getElem?_eq_none_iff.mp e
      have e2 : xs[k]? = none := List.getElem?_eq_none_iff.mpr (by rw [← r.len]; exact h1)
      rw [List.filterMap_cons_none e, List.filterMap_cons_none e2]
      exact ih
    | some v =>
      obtain ⟨x, hx, rx⟩ := r.getV e
      rw [List.filterMap_cons_some e, List.filterMap_cons_some hx]
      exact ⟨rx, ih⟩
section
variable {K : Fg} {A B C D : Type} [Rp A] [Rp B] [Rp C] [Rp D]
variable {σ : L2.St} {G G' H H' : Hp} {L : Led} {M : List Addr} {te ta tb tc : TE} {tt tu : TT}
theorem en_sl3 {tl th : TO} {ma : Option (List A)} {ml mh : Option (Option Int)} {n : Nat} (ha : EvB K te σ H ma) (hl : EvP tl σ H ml) (hh : EvP th σ H mh) : EvN K (tSl3 te tl th n) σ H (o3 (fun a l h => some (stepM a l h n)) ma ml mh) := fun x hx H1 e Q q => by
  obtain ⟨a, l, h, e1, e2, e3, e4⟩ := o3s hx
  cases e4
  refine ha a e1 H1 e _ fun v H2 g2 r2 => hl l e2 H2 (e.trans g2) _ fun H3 g3 => hh h e3 H3 ((e.trans g2).trans g3) _ fun H4 g4 => ?_
  have g5 := (g2.trans g3).trans g4
  obtain ⟨p, vs, rfl, h2, h3⟩ := Rp.mono (g3.trans g4) r2
  have r4 : Al (rp K H4) ((sliceRange (sliceBounds l h (some (n : Int)) vs.length).1 (sliceBounds l h (some (n : Int)) vs.length).2.1 (sliceBounds l h (some (n : Int)) vs.length).2.2).filterMap (vs[·]?)) (stepM a l h n) := by
    unfold stepM
    rw [h3.len]
    exact al_pick h3 _
  exact ⟨p, vs, rfl, h2, fun p' hp => q p' _ _ (g5.back hp) (g5.trans (Gx.new hp)) upd_same (r4.mono fun _ _ => Rp.mono (Gx.new hp))⟩
/-- a slice of the script -/
theorem en_slS {tl th : TO} {ma : Option Scr} {ml mh : Option (Option Int)} (ha : EvB K te σ H ma) (hl : EvP tl σ H ml) (hh : EvP th σ H mh) : EvN K (tSl (rSlL K) te tl th) σ H (o3 (fun a l h => some (cutM a.l l h)) ma ml mh) := fun x hx H1 e Q q => by
  obtain ⟨a, l, h, e1, e2, e3, e4⟩ := o3s hx
  cases e4
  refine ha a e1 H1 e _ fun v H2 g2 r2 => hl l e2 H2 (e.trans g2) _ fun H3 g3 => hh h e3 H3 ((e.trans g2).trans g3) _ fun H4 g4 => ?_
  have g5 := (g2.trans g3).trans g4
  obtain ⟨p, rfl, h2⟩ := Rp.mono (g3.trans g4) r2
  exact ⟨p, _, rfl, h2, fun p' hp => q p' _ _ (g5.back hp) (g5.trans (Gx.new hp)) upd_same (al_cut (int_al (K := K) a.l))⟩
theorem eb_lenS {ma : Option Scr} (ha : EvB K ta σ H ma) : EvB K (tCB (fun xs H Q => ∃ p ys, xs = [.ref p] ∧ (SqL K H p ys ∨ SqT K H p ys) ∧ Q (.int ys.length) H) (tCons ta tNil)) σ H (o1 (fun x => some (x.l.length : Int)) ma) :=
  call1 (fun H v x c r hc Q q => by
    cases hc
    obtain ⟨p, rfl, h2⟩ := r
    refine ⟨p, _, rfl, .inl h2, ?_⟩
    rw [List.length_map]
    exact q _ H Gx.rfl rfl) ha
/-- zip of three -/
theorem wk_zip3 {a b c : Addr} {vs ws zs : List V} {xs : List A} {ys : List B} {us : List C} {S : Hp} (h : S a = some (.lst vs)) (r : Al (rp K S) vs xs) (h' : S b = some (.lst ws)) (r' : Al (rp K S) ws ys) (h2 : S c = some (.lst zs)) (r2 : Al (rp K S) zs us) :
    Wk K (Itz3 K a b c) ((xs.zip (ys.zip us)).map fun p => T3.mk p.1 p.2.1 p.2.2) S := by
  have hlen : ((xs.zip (ys.zip us)).map fun p => T3.mk p.1 p.2.1 p.2.2).length = min xs.length (min ys.length us.length) := by
    rw [List.length_map, List.length_zip, List.length_zip]
  have get : forall i, i < min xs.length (min ys.length us.length) -> exists v w z, vs[i]? = some v ∧ ws[i]? = some w ∧ zs[i]? = some z := fun i hi => by
    obtain ⟨v, hv, _⟩ := r.get (List.getElem?_eq_getElem (show i < xs.length by omega))
    obtain ⟨w, hw, _⟩ := r'.get (List.getElem?_eq_getElem (show i < ys.length by omega))
    obtain ⟨z, hz, _⟩ := r2.get (List.getElem?_eq_getElem (show i < us.length by omega))
    exact ⟨v, w, z, hv, hw, hz⟩
  refine ⟨fun i H hi e => ?_, fun H e => ⟨vs, ws, zs, ⟨SqL.of (e _ _ h), SqL.of (e _ _ h'), SqL.of (e _ _ h2)⟩, ?_⟩, fun i H v H' x e hx y => ?_⟩
  · rw [hlen] at hi
    obtain ⟨v, w, z, hv, hw, hz⟩ := get i hi
    exact ⟨vs, ws, zs, v, w, z, ⟨SqL.of (e _ _ h), SqL.of (e _ _ h'), SqL.of (e _ _ h2)⟩, hv, hw, hz⟩
  · rw [hlen, r.len, r'.len, r2.len]
    omega
  · obtain ⟨T, x1, y1, u1, rfl, hT, rfl, f1, f2, f3⟩ := y
    have q1 := f1 vs (SqL.of (e _ _ h))
    have q2 := f2 ws (SqL.of (e _ _ h'))
    have q3 := f3 zs (SqL.of (e _ _ h2))
    rw [List.getElem?_map] at hx
    obtain ⟨p, hp, rfl⟩ := Option.map_eq_some_iff.mp hx
    have hz := List.getElem?_zip_eq_some.mp hp
    have hz2 := List.getElem?_zip_eq_some.mp hz.2
    obtain ⟨v, hv, rv⟩ := r.get hz.1
    obtain ⟨w, hw, rw'⟩ := r'.get hz2.1
    obtain ⟨z, hz', rz⟩ := r2.get hz2.2
    rw [hv] at q1
    rw [hw] at q2
    rw [hz'] at q3
    cases q1; cases q2; cases q3
    have g := Gx.new (o := HO.tup [x1, y1, u1]) hT
    exact ⟨g, T, x1, y1, u1, rfl, upd_same, Rp.mono (e.trans g) rv, Rp.mono (e.trans g) rw', Rp.mono (e.trans g) rz⟩
def zip3 {A B C : Type} (xs : List A) (ys : List B) (us : List C) : List (T3 A B C) := (xs.zip (ys.zip us)).map fun p => T3.mk p.1 p.2.1 p.2.2
theorem ei_zip3 {ma : Option (List A)} {mb : Option (List B)} {mc : Option (List C)} (h : EvS K ta σ M H ma) (h' : EvS K tb σ M H mb) (h2 : EvS K tc σ M H mc) : EvI K (iZip3 K (tCons ta (tCons tb (tCons tc tNil)))) σ M H (o3 (fun a b c => some (zip3 a b c)) ma mb mc) := fun xs hx H1 e R q => by
  obtain ⟨a, b, c, e1, e2, e3, e4⟩ := o3s hx
  cases e4
  refine h a e1 H1 e _ fun v H2 g r => h' b e2 H2 (e.trans g) _ fun w H3 g3 r3 => h2 c e3 H3 ((e.trans g).trans g3) _ fun z H4 g4 r4 => ?_
  obtain ⟨p, vs, rfl, i2, i3⟩ := Rp.mono (mns_mono (M := M) (g3.trans g4)) r
  obtain ⟨p', ws, rfl, i4, i5⟩ := Rp.mono (mns_mono (M := M) g4) r3
  obtain ⟨p3, zs, rfl, i6, i7⟩ := r4
  exact ⟨p, p', p3, vs, ws, zs, rfl, ⟨SqL.of (mns_ex _ _ i2), SqL.of (mns_ex _ _ i4), SqL.of (mns_ex _ _ i6)⟩, q _ H4 ((g.trans g3).trans g4) (wk_zip3 i2 i3 i4 i5 i6 i7)⟩
end
end Pu

set_option Elab.async false
set_option linter.all false
set_option maxRecDepth 100000
set_option maxHeartbeats 2000000
namespace Pu
open Pu.Rp (rp)
open PySem PySem.Spec PyProof.Rows L2
section
variable {prog : Program} {w : World} {A : Around} {E : Value → Shared → Prop} {s : Shared}
/-- sorted(x), whatever x is collected to -/
theorem sorted_gen {x : Value} {ltv : Value → Value → Bool} {Pc : List Value -> Shared -> Prop} {Q : Value → Shared → Prop} (O : SrtO.Swo ltv)
    (hcol : forall (Q1 : List Value → Shared → Prop), (forall vs s1, Pc vs s1 -> Q1 vs s1) -> wpAny (model prog w) A.in1 (collect x) Q1 E s) (hz : forall vs s1, Pc vs s1 -> vs.length ≤ sizeLine)
    (hS : forall vs s1, Pc vs s1 -> 2 ≤ vs.length -> forall (h1 : Heap) (a : Addr), h1.get? a = some (seqObj "list" vs.toArray 0) -> (forall b o, s1.heap.get? b = some o -> b ≠ a ∧ h1.get? b = some o) -> SrtO.SortableO prog w A.in1.in1 { s1 with heap := h1 } a vs ltv)
    (h : forall vs s1 out h2 p c, Pc vs s1 -> SrtO.Srtd ltv out -> SrtO.Stb ltv out vs -> s1.heap.objs.size ≤ p -> h2.get? p = some (seqObj "list" out.toArray c) -> (forall b o, s1.heap.get? b = some o -> h2.get? b = some o) -> Q (.ref p) { s1 with heap := h2 }) :
    wpAny (model prog w) A (call (.builtin "sorted") [x]) Q E s := by
  refine Calls.call_function_entry kind_sorted plain_sorted entry_sorted (args_sorted1 _) ?_
  unfold Builtin.«sorted»
  refine wpAny_bind (m := checkCount "sorted" 1 1 _) (wpAny_pure (wpAny_bind (hcol _ fun vs s1 hP => ?_)))
  have z := hz vs s1 hP
  refine wpAny_bind (wpAny_newList ?_ z)
  have hoL : (s1.heap.push (seqObj "list" vs.toArray 0)).get? s1.heap.objs.size = some (seqObj "list" vs.toArray 0) := Heap.get?_push_size _ rfl
  have kp : forall b o, s1.heap.get? b = some o -> b ≠ s1.heap.objs.size ∧ (s1.heap.push (seqObj "list" vs.toArray 0)).get? b = some o := fun b o q => ⟨Nat.ne_of_lt (Heap.lt_size q), Heap.get?_push_of_some _ q⟩
  refine wpAny_bind (wpAny_holding (wpAny_call_entry slot_list_sort ⟨_, hoL, rfl⟩ entry_list_sort (SrtO.list_sort_ord O hoL z (fun h2 => hS vs s1 hP h2 _ _ hoL kp) fun out q1 q2 => ⟨_, rfl, wpAny_pure ⟨_, rfl, ?_⟩⟩) (args_list_sort _)))
  obtain ⟨c, hc⟩ := sortedHeap_at (vs := vs) (out := out.toArray) hoL
  refine h vs s1 out _ _ c hP q1 q2 (Nat.le_refl _) hc fun b o e => ?_
  have hlt := Heap.lt_size e
  rw [sortedHeap_old (Nat.ne_of_lt hlt) (by rw [Heap.size_push]; exact Nat.lt_succ_of_lt hlt)]
  exact Heap.get?_push_of_some _ e
end

/-! pairs of ints -/
def plt (p q : Int × Int) : Bool := SrtO.lexB p q
theorem plt_iff {p q : Int × Int} : plt p q = true ↔ p.1 < q.1 ∨ (p.1 = q.1 ∧ p.2 < q.2) := SrtO.lexB_iff
def ple (p q : Int × Int) : Bool := !plt q p
theorem ple_iff {p q : Int × Int} : ple p q = true ↔ p.1 < q.1 ∨ (p.1 = q.1 ∧ p.2 ≤ q.2) := by
  unfold ple
  have h := @plt_iff q p
  cases e : plt q p with
  | true =>
    have z := h.mp e
    constructor
    · intro q; cases q
    · intro q; omega
  | false =>
    constructor
    · intro _
      have n : ¬ (q.1 < p.1 ∨ (q.1 = p.1 ∧ q.2 < p.2)) := fun z => by rw [h.mpr z] at e; cases e
      omega
    · intro _; rfl
/-- pairs in order -/
def psort (x : List (Int × Int)) : List (Int × Int) := x.mergeSort ple
theorem psort_perm (x : List (Int × Int)) : (psort x).Perm x := List.mergeSort_perm _ _
theorem psort_le (x : List (Int × Int)) : (psort x).Pairwise fun p q => ple p q = true :=
  List.pairwise_mergeSort (fun a b c h1 h2 => by rw [ple_iff] at *; omega) (fun a b => by rw [Bool.or_eq_true, ple_iff, ple_iff]; omega) x
theorem pp_uniq {xs ys : List (Int × Int)} (p : xs.Perm ys) (h1 : xs.Pairwise fun p q => ple p q = true) (h2 : ys.Pairwise fun p q => ple p q = true) : xs = ys :=
  p.eq_of_pairwise (fun a b _ _ h h' => by
    rw [ple_iff] at h h'
    have e1 : a.1 = b.1 := by omega
    have e2 : a.2 = b.2 := by omega
    exact Prod.ext e1 e2) h1 h2
/-- sorted(x), x a list or a tuple of pairs of ints -/
def rSortE (K : Fg) : List V -> Hp -> VK -> Prop := fun vs H Q => exists (a : Addr) (xs : List V) (ps : List (Int × Int)), vs = [V.ref a] ∧ (H a = some (.lst xs) ∨ H a = some (.tup xs)) ∧ Al (rp K H) xs ps ∧
  forall ys p, H p = none -> Al (rp K H) ys (psort ps) -> Q (.ref p) (upd H p (.lst ys))
def prOf (H : Hp) (v : V) : Int × Int := match v with
  | .ref t => match H t with
    | some (.tup [.int i, .int j]) => (i, j)
    | _ => (0, 0)
  | _ => (0, 0)
theorem prOf_eq {K : Fg} {H : Hp} {v : V} {x : Int × Int} (h : rp K H v x) : prOf H v = x ∧ exists t, v = .ref t ∧ H t = some (.tup [.int x.1, .int x.2]) := by
  obtain ⟨t, u, w, rfl, h2, h3, h4⟩ := h
  have e3 : u = .int x.1 := h3
  have e4 : w = .int x.2 := h4
  subst e3 e4
  refine ⟨?_, t, rfl, h2⟩
  unfold prOf
  simp only [h2]
theorem al_pr {K : Fg} {H : Hp} : forall {vs : List V} {xs : List (Int × Int)}, Al (rp K H) vs xs -> vs.map (prOf H) = xs
  | [], [], _ => rfl
  | _ :: _, _ :: _, q => by rw [List.map_cons, (prOf_eq q.1).1, al_pr q.2]
  | [], _ :: _, q => q.elim
  | _ :: _, [], q => q.elim
theorem al_of {A : Type} {F : V -> A -> Prop} {f : V -> A} : forall {vs : List V}, (forall v, v ∈ vs -> F v (f v)) -> Al F vs (vs.map f)
  | [], _ => trivial
  | v :: vs, h => ⟨h v List.mem_cons_self, al_of fun u hu => h u (List.mem_cons_of_mem _ hu)⟩
section
variable {X : Cx}
theorem cr_sortE : CallR X (.builtin "sorted") (rSortE X.K) := by
  intro pins s σ H vs us Q I r h
  obtain ⟨a, xs, ps, rfl, hs, hx, q⟩ := h
  obtain ⟨u, rfl, ru⟩ := vals1 r
  obtain rfl : u = Value.ref a := ru
  have hmem : forall v, v ∈ xs -> exists t, v = .ref t ∧ H t = some (.tup [.int (prOf H v).1, .int (prOf H v).2]) := fun v hv => by
    obtain ⟨i, hi⟩ := List.getElem?_of_mem hv
    obtain ⟨x, hx1, hx2⟩ := hx.getV hi
    obtain ⟨e1, e2⟩ := prOf_eq hx2
    rw [e1]
    exact e2
  obtain ⟨T, o, its, n, hT, ho, hc, hd, rv, hz⟩ : exists T o its n, (T = "list" ∨ T = "tuple") ∧ s.heap.get? a = some o ∧ o.cls = .type T ∧ o.data = .seq (List.toArray its) n ∧ Vals xs its ∧ xs.length ≤ sizeLine := by
    rcases hs with hs | hs
    · obtain ⟨its, rv, ⟨o, n, ho, hc, _, hd⟩, hz⟩ := I.list (SqL.of hs)
      exact ⟨"list", o, its, n, .inl rfl, ho, hc, hd, rv, hz⟩
    · obtain ⟨its, rv, ⟨o, ho, hc, n, hd⟩, hz⟩ := I.tuple (SqT.of hs)
      exact ⟨"tuple", o, its, n, .inr rfl, ho, hc, hd, rv, hz⟩
  have hzi : its.toArray.size ≤ sizeLine := by rw [List.size_toArray, ← rv.length]; exact hz
  obtain ⟨e1, e2⟩ := refs_back rv fun x m => by
    obtain ⟨t, e, _⟩ := hmem x m
    exact ⟨t, e⟩
  refine sorted_gen (Pc := fun vs s1 => vs = its ∧ exists h', s1 = { s with heap := h' } ∧ forall b o', s.heap.get? b = some o' -> h'.get? b = some o') (SrtO.swo_lex fun v => prOf H (backV v)) (fun Q1 hQ => ?_) (fun vs s1 ⟨e, _⟩ => ?_) (fun vs s1 ⟨e, h', es, kp⟩ h2 h1 a' ha kk => ?_) fun vs s1 out h2 p c ⟨e, h', es, kp⟩ q1 q2 hp hg hk => ?_
  · exact wpAny_collect_seq a hT ho hc hd (fun h' kp => hQ _ _ ⟨by simp, h', rfl, kp⟩) hzi
  · rw [e, ← rv.length]; exact hz
  · subst e es
    refine SrtO.pairs_sortableO (s := { s with heap := h1 }) (by omega) (fun v hv => ?_) fun o e => ?_
    · obtain ⟨t, rfl⟩ := e2 v hv
      have hm : V.ref t ∈ xs := by rw [e1]; exact List.mem_map.mpr ⟨_, hv, rfl⟩
      obtain ⟨t', e, ht⟩ := hmem _ hm
      cases e
      obtain ⟨_, its2, r2, o2, ho2, hc2, n2, hd2⟩ := I.hok _ _ ht
      obtain ⟨u1, u2, rfl, ri, rj⟩ := vals2 r2
      obtain ⟨t1, rfl⟩ := ri
      obtain ⟨t2, rfl⟩ := rj
      exact ⟨t, o2, t1, t2, n2, rfl, (kk _ _ (kp _ _ ho2)).2, hc2, hd2⟩
    · have e' : some o = some (seqObj "list" vs.toArray 0) := e.symm.trans ha
      cases e'
      intro c
      exact absurd (Value.type.inj c) (by decide)
  · subst e es
    have h3 : ∀ u ∈ out, ∃ a, u = Value.ref a := fun u hu => e2 u (q2.perm.mem_iff.mp hu)
    have I1 : Inv X pins σ H { s with heap := h' } := I.kept (t' := s.toks) kp
    have hn : H p = none := I1.hok.fresh hp
    have pm : (out.map backV).Perm xs := by rw [e1]; exact q2.perm.map backV
    have al : Al (rp X.K H) (out.map backV) (psort ps) := by
      have a1 : Al (rp X.K H) (out.map backV) ((out.map backV).map (prOf H)) := al_of fun v hv => by
        obtain ⟨t, rfl, ht⟩ := hmem v (pm.mem_iff.mp hv)
        exact ⟨t, _, _, rfl, ht, rfl, rfl⟩
      have e3 : (out.map backV).map (prOf H) = psort ps := by
        refine pp_uniq ?_ ?_ (psort_le ps)
        · refine List.Perm.trans (pm.map (prOf H)) ?_
          rw [al_pr hx]
          exact (psort_perm ps).symm
        · rw [List.map_map]
          exact List.pairwise_map.mpr (q1.imp fun {x y} h => by
            show (!plt (prOf H (backV y)) (prOf H (backV x))) = true
            have h' : plt (prOf H (backV y)) (prOf H (backV x)) = false := h
            rw [h']; rfl)
      rw [e3] at a1
      exact a1
    refine ⟨.ref p, upd H p (.lst (out.map backV)), I1.laid (t' := s.toks) hk hp ⟨?_, out, c, vals_back h3, hg⟩, rfl, q _ p hn al⟩
    rw [pm.length_eq]
    exact hz
/-! a set of ints, any number of them -/
def rSortS (w : World) : List V -> Hp -> VK -> Prop := fun vs H Q => exists (a : Addr) (S : Int -> Bool) (n : Nat), vs = [V.ref a] ∧ H a = some (SetO w a S n) ∧
  forall (ns : List Int) (p : Addr), ns.Pairwise (· < ·) -> (forall k : Int, k ∈ ns ↔ S k = true) -> H p = none -> Q (.ref p) (upd H p (.lst (ns.map V.int)))
theorem cr_sortS (hc : X.calm = true) : CallR X (.builtin "sorted") (rSortS X.w) := by
  intro pins s σ H vs us Q I r h
  obtain ⟨a, S, n, rfl, ha, q⟩ := h
  have R := setO_get I ha
  rw [Vals.ref1 r]
  obtain ⟨o, es, ep, t, ho, hex, hd, g, nd, hm, hb, hf, hn, hr, hl⟩ := R
  have hh : X.A.in1.handled = none := by simpa using I.ok.hd hc
  refine sorted_gen (Pc := fun vs s1 => vs.Perm (es.toList.map (·.2)) ∧ (forall b o, s.heap.get? b = some o -> s1.heap.get? b = some o) ∧ s1.gens = s.gens ∧ s1.os = s.os ∧ s.heap.objs.size ≤ s1.heap.objs.size) SrtO.swo_int (fun Q1 hQ => ?_) (fun vs s1 ⟨pm, _⟩ => ?_) (fun vs s1 ⟨pm, _⟩ h2 h1 a' ha' kk => ?_) fun vs s1 out h2 p c ⟨pm, kp, g1, o1, z1⟩ q1 q2 hp hg hk => ?_
  · exact collect_set hh ⟨o, ho, hex.1, hd⟩ hf hb hr hl fun s1 vs k1 hz g1 o1 pm => hQ vs s1 ⟨pm, k1, g1, o1, hz⟩
  · rw [pm.length_eq, List.length_map, Array.length_toList]
    exact fits_of_scanBound hb
  · refine SrtO.ints_sortable (ns := vs.map Builtin.Re.reRawOf) (ints_of vs fun v hv => ?_) h2
    obtain ⟨e, he, qe⟩ := List.mem_map.mp (pm.mem_iff.mp hv)
    obtain ⟨k, tk, h1, _⟩ := g e he
    exact ⟨k, tk, by rw [← qe]; exact h1⟩
  · have hI : IntsAre vs (vs.map Builtin.Re.reRawOf) := ints_of vs fun v hv => by
      obtain ⟨e, he, qe⟩ := List.mem_map.mp (pm.mem_iff.mp hv)
      obtain ⟨k, tk, h1, _⟩ := g e he
      exact ⟨k, tk, by rw [← qe]; exact h1⟩
    obtain ⟨k1, k2, k3⟩ := SrtO.ints_out hI q1 q2
    have pk : (vs.map Builtin.Re.reRawOf).Perm (es.toList.map keyOf) := by
      have z := pm.map Builtin.Re.reRawOf
      rw [List.map_map] at z
      exact z
    have pn : (out.map SrtO.iv).Perm (es.toList.map keyOf) := k2.trans pk
    have hp' : s.heap.objs.size ≤ p := Nat.le_trans z1 hp
    have hnp : H p = none := I.hok.fresh hp'
    have kk : forall b o, s.heap.get? b = some o -> h2.get? b = some o := fun b o e => hk b o (kp b o e)
    have hlen : ((out.map SrtO.iv).map V.int).length ≤ sizeLine := by
      rw [List.length_map, pn.length_eq, List.length_map, Array.length_toList]
      exact fits_of_scanBound hb
    have J : Inv X pins σ (upd H p (.lst ((out.map SrtO.iv).map V.int))) { s with heap := h2, gens := s1.gens, drawn := s1.drawn, toks := s1.toks } :=
      I.call (ch := []) (Un.laid kk hp' hnp) (I.hok.laid kk hp' ⟨hlen, out, c, vals_of_ints k1, hg⟩) (by rw [g1]; exact I.bare) (fun _ z => nomatch z)
    have e : { s1 with heap := h2 } = { s with heap := h2, gens := s1.gens, drawn := s1.drawn, toks := s1.toks } := by
      cases s1
      cases s
      cases o1
      rfl
    rw [e]
    exact ⟨.ref p, _, J, rfl, q _ p (lt_of_le_nodup _ k3 (pn.nodup_iff.mpr nd)) (fun k => by rw [pn.mem_iff, ← hm k]) hnp⟩
end
end Pu

set_option Elab.async false
set_option linter.all false
set_option maxRecDepth 100000
namespace Pu
open Pu.Rp (rp)
open PySem PySem.Spec PyProof.Rows L2
/-! dicts with int keys -/
def dput {B : Type} (d : List (Int × B)) (k : Int) (x : B) : List (Int × B) := if (d.any fun p => decide (p.1 = k)) = true then d.map (fun p => if p.1 = k then (p.1, x) else p) else d ++ [(k, x)]
def Da {B : Type} (F : V -> B -> Prop) : List (Key × V) -> List (Int × B) -> Prop
  | [], [] => True
  | p :: r, x :: xs => p.1 = .inl x.1 ∧ F p.2 x.2 ∧ Da F r xs
  | _, _ => False
theorem Da.mono {B : Type} {F F' : V -> B -> Prop} (h : forall v x, F v x -> F' v x) : forall {kvs : List (Key × V)} {d : List (Int × B)}, Da F kvs d -> Da F' kvs d
  | [], [], _ => trivial
  | _ :: _, _ :: _, q => ⟨q.1, h _ _ q.2.1, Da.mono h q.2.2⟩
  | [], _ :: _, q => q.elim
  | _ :: _, [], q => q.elim
theorem Da.len {B : Type} {F : V -> B -> Prop} : forall {kvs : List (Key × V)} {d : List (Int × B)}, Da F kvs d -> kvs.length = d.length
  | [], [], _ => rfl
  | _ :: _, _ :: _, q => by simp only [List.length_cons, Da.len q.2.2]
  | [], _ :: _, q => q.elim
  | _ :: _, [], q => q.elim
theorem Da.any {B : Type} {F : V -> B -> Prop} (k : Int) : forall {kvs : List (Key × V)} {d : List (Int × B)}, Da F kvs d -> (kvs.any fun p => decide (p.1 = .inl k)) = d.any fun p => decide (p.1 = k)
  | [], [], _ => rfl
  | p :: r, x :: xs, q => by
    rw [List.any_cons, List.any_cons, Da.any k q.2.2, q.1]
    congr 1
    by_cases e : x.1 = k
    · rw [decide_eq_true e, e]; simp
    · rw [decide_eq_false e, decide_eq_false (fun z => e (Sum.inl.inj z))]
  | [], _ :: _, q => q.elim
  | _ :: _, [], q => q.elim
theorem Da.map {B : Type} {F : V -> B -> Prop} {k : Int} {v : V} {x : B} (h : F v x) : forall {kvs : List (Key × V)} {d : List (Int × B)}, Da F kvs d -> Da F (kvs.map fun p => if p.1 = .inl k then (p.1, v) else p) (d.map fun p => if p.1 = k then (p.1, x) else p)
  | [], [], _ => trivial
  | p :: r, y :: ys, q => by
    refine ⟨?_, ?_, Da.map h q.2.2⟩
    · by_cases e : y.1 = k
      · have e2 : p.1 = .inl k := by rw [q.1, e]
        simp only [if_pos e, if_pos e2]
        exact q.1
      · have e2 : ¬ p.1 = .inl k := fun z => e (Sum.inl.inj (q.1.symm.trans z))
        simp only [if_neg e, if_neg e2]
        exact q.1
    · by_cases e : y.1 = k
      · have e2 : p.1 = .inl k := by rw [q.1, e]
        simp only [if_pos e, if_pos e2]
        exact h
      · have e2 : ¬ p.1 = .inl k := fun z => e (Sum.inl.inj (q.1.symm.trans z))
        simp only [if_neg e, if_neg e2]
        exact q.2.1
  | [], _ :: _, q => q.elim
  | _ :: _, [], q => q.elim
theorem Da.snoc {B : Type} {F : V -> B -> Prop} {k : Int} {v : V} {x : B} (h : F v x) : forall {kvs : List (Key × V)} {d : List (Int × B)}, Da F kvs d -> Da F (kvs ++ [(.inl k, v)]) (d ++ [(k, x)])
  | [], [], _ => ⟨rfl, h, trivial⟩
  | _ :: _, _ :: _, q => ⟨q.1, q.2.1, Da.snoc h q.2.2⟩
  | [], _ :: _, q => q.elim
  | _ :: _, [], q => q.elim
theorem Da.put {B : Type} {F : V -> B -> Prop} {kvs : List (Key × V)} {d : List (Int × B)} {k : Int} {v : V} {x : B} (q : Da F kvs d) (h : F v x) : Da F (putK kvs (.inl k) v) (dput d k x) := by
  unfold putK dput
  rw [Da.any k q]
  split
  · exact Da.map h q
  · exact Da.snoc h q
theorem Da.key {B : Type} {F : V -> B -> Prop} : forall {kvs : List (Key × V)} {d : List (Int × B)} {i : Nat} {x : Int}, Da F kvs d -> (d.map (·.1))[i]? = some x -> exists v, kvs[i]? = some (.inl x, v)
  | [], [], _, _, _, h => by simp at h
  | p :: _, y :: _, 0, x, q, h => by
    have e : y.1 = x := by simpa using h
    refine ⟨p.2, ?_⟩
    rw [← e, ← q.1]
    rfl
  | _ :: _, _ :: _, i + 1, x, q, h => by
    obtain ⟨v, h1⟩ := Da.key (i := i) (x := x) q.2.2 (by simpa using h)
    exact ⟨v, by simpa using h1⟩
  | [], _ :: _, _, _, q, _ => q.elim
  | _ :: _, [], _, _, q, _ => q.elim
theorem dput_len {B : Type} (d : List (Int × B)) (k : Int) (x : B) : (dput d k x).length ≤ d.length + 1 := by
  unfold dput
  split
  · rw [List.length_map]; omega
  · rw [List.length_append]; simp
section
variable {K : Fg} {A B C D : Type} [Rp A] [Rp B] [Rp C] [Rp D]
variable {σ : L2.St} {G G' H H' : Hp} {L L1 L2' : Led} {M : List Addr} {te ta tb tc td : TE} {tt tu : TT} {X : Ends} {t1 t2 u : TS} {i : Nat}
/-- {k: v} -/
theorem st_dict1 [Im B] {k : Int} {m : Option B} {x : B} (h : forall H1, Gx H H1 -> EvB K te σ H1 m) (hm : m = some x) (a : At G H L)
    (kk : forall p v G2 H2, H p = none -> Gx G G2 -> Gx H H2 -> At G2 H2 ((p, .dK [(.inl k, v)]) :: L) -> rp K G2 v x -> u X (σ.set i (some (.ref p))) H2) : tSeq (tAsg (tDisp [(tC (.int k), te)]) (gName i)) u X σ H := by
  intro p hp
  have e1 : Gx H (upd H p (.dK [])) := Gx.new hp
  refine h _ e1 x hm _ Gx.rfl _ fun v H2 e2 r => ?_
  have hd : H2 p = some (.dK []) := e2 _ _ upd_same
  refine ⟨hd, [(.inl k, v)], rfl, by show 1 ≤ 15; decide, ?_⟩
  have a1 : At G (upd H p (.dK [])) ((p, .dK []) :: L) := a.add hp trivial
  have a2 : At G H2 ([] ++ (p, .dK []) :: L) := a1.grow e2
  have a3 := a2.set (o' := .dK (mergeK [] [(.inl k, v)])) trivial
  have em : mergeK [] [((.inl k : Key), v)] = [(.inl k, v)] := rfl
  rw [em] at a3 ⊢
  refine kk p v (hid (upd H2 p (.dK [(.inl k, v)])) ((p, .dK [(.inl k, v)]) :: L)) _ hp a3.gh ?_ a3.hid (Im.im (fun b xs hb => a3.tx b xs ?_) r)
  · exact (e1.trans e2).mut hp
  · exact Tx.mut (fun ys q => by rw [hd] at q; cases q) b xs hb
/-- d[k] = v -/
theorem st_dput [Im B] {p : Addr} {kvs : List (Key × V)} {d : List (Int × B)} {mk : Option Int} {k : Int} {m : Option B} {x : B} (h : EvB K tc σ H m) (hm : m = some x) (hs : forall H1, Gx H H1 -> forall Q : VK, Q (.ref p) H1 -> td σ H1 Q) (hk : EvB K te σ H mk) (hkk : mk = some k)
    (a : At G H (L1 ++ (p, .dK kvs) :: L2')) (r : Da (rp K G) kvs d) (hz : d.length < 100000)
    (kk : forall kvs' G2 H2, Gx G G2 -> At G2 (upd H2 p (.dK kvs')) (L1 ++ (p, .dK kvs') :: L2') -> Gx H H2 -> Da (rp K G2) kvs' (dput d k x) -> u X σ (upd H2 p (.dK kvs'))) :
    tSeq (sDPut td te tc) u X σ H := by
  have hp := (a.led (p, .dK kvs) (by simp)).1
  refine h x hm H Gx.rfl _ fun v H2 e2 r2 => hs H2 e2 _ (hk k hkk H2 e2 _ fun w H3 e3 rw' => ?_)
  have e4 : w = .int k := rw'
  subst e4
  have hd : H3 p = some (.dK kvs) := e3 _ _ (e2 _ _ hp)
  refine ⟨p, _, rfl, .inl ⟨kvs, .inl k, hd, rfl, by rw [r.len]; exact Evl.sz_lt hz, rfl⟩, ?_⟩
  have a3 := (a.grow (e2.trans e3)).set (o' := .dK (putK kvs (.inl k) v)) trivial
  refine kk (putK kvs (.inl k) v) (hid (upd H3 p (.dK (putK kvs (.inl k) v))) (L1 ++ (p, .dK (putK kvs (.inl k) v)) :: L2')) H3 a3.gh a3.hid (e2.trans e3) ((r.mono fun _ _ => Rp.mono a3.gh).put (Im.im (fun b xs hb => a3.tx b xs ?_) (Rp.mono e3 r2)))
  exact Tx.mut (fun ys q => by rw [hd] at q; cases q) b xs hb
/-- a comprehension over the keys of one's own dict -/
theorem en_lcK [Im A] {g : TG} {b : Bd Int} {vs : List Nat} {p : Addr} {kvs : List (Key × V)} {F : V -> B -> Prop} {d : List (Int × B)} {c : Int -> Option Bool} {f : Int -> Option A} (hs : σ[i]? = some (some (.ref p))) (hd : H p = some (.dK kvs)) (hr : Da F kvs d) (hg : TgOk K g b) (hb : BdIn b vs)
    (ht : forall x σ2 H', Gx (mns H [p]) H' -> b x (wipe σ vs) H' σ2 -> EvT tt σ2 H' (c x)) (he : forall x σ2 H', Gx (mns H [p]) H' -> b x (wipe σ vs) H' σ2 -> EvB K te σ2 H' (f x)) :
    EvN K (tLockE (tLc (iKeys (tVar i)) g tt te vs)) σ H ((lim 100000 (d.map (·.1))).bind (comp c f)) := fun r hr' H1 e1 Q q => by
  have hd1 : H1 p = some (.dK kvs) := e1 _ _ hd
  refine ⟨p, .dK kvs, hd1, trivial, fun od => ?_⟩
  have em1 : Gx (mns H [p]) (upd H1 p (.frz od (.dK kvs))) := fun a o h => by
    have n : a ≠ p := fun z => by rw [z, mns_in (List.mem_singleton.mpr rfl)] at h; cases h
    rw [upd_ne n]
    exact e1 _ _ (mns_ex _ _ h)
  refine ⟨_, hs, p, od, rfl, .inl ⟨kvs, upd_same, ?_⟩⟩
  intro D hD
  have nD : D ≠ p := fun z => by rw [z, upd_same] at hD; cases hD
  have hD1 : H1 D = none := by rw [upd_ne nD] at hD; exact hD
  generalize hks : d.map (·.1) = ks at hr'
  have hkl : kvs.length = ks.length := by rw [hr.len, ← hks, List.length_map]
  unfold lim at hr'
  by_cases hz : ks.length ≤ 100000
  · rw [if_pos hz] at hr'
    have hr2 : comp c f ks = some r := hr'
    refine ⟨fun i m Hc => m = ks.length - i ∧ i ≤ ks.length ∧ Gx (upd H1 p (.frz od (.dK kvs))) Hc ∧ exists vs' ys r', Hc D = some (.lst vs') ∧ Al (rp K Hc) vs' ys ∧ ys.length ≤ i ∧ comp c f (ks.drop i) = some r' ∧ r = ys ++ r',
      ⟨ks.length, by simp, Nat.zero_le _, Gx.new hD, [], [], r, upd_same, trivial, Nat.le_refl _, hr2, rfl⟩, ?_⟩
    rintro i m Hc ⟨rfl, hle, gc, vs', ys, r', hDc, ral, hlen, hcomp, rfl⟩
    have hpc : Hc p = some (.frz od (.dK kvs)) := gc _ _ upd_same
    by_cases hlt : i < ks.length
    · refine .inr ⟨⟨hpc, by rw [hkl]; exact hlt⟩, fun Hn => i + 1 ≤ ks.length ∧ Gx (upd H1 p (.frz od (.dK kvs))) Hn ∧ exists vs' ys' r'', Hn D = some (.lst vs') ∧ Al (rp K Hn) vs' ys' ∧ ys'.length ≤ i + 1 ∧ comp c f (ks.drop (i + 1)) = some r'' ∧ ys ++ r' = ys' ++ r'',
        fun Hn hn => ⟨ks.length - (i + 1), by omega, rfl, hn.1, hn.2⟩, fun v Hy hy => ?_⟩
      obtain ⟨rfl, k, v', hk, rfl⟩ := hy
      have hx : (d.map (·.1))[i]? = some ks[i] := by rw [hks]; exact List.getElem?_eq_getElem hlt
      obtain ⟨v2, hv2⟩ := hr.key hx
      rw [hv2] at hk
      have ek : k = .inl ks[i] := (congrArg Prod.fst (Option.some.inj hk)).symm
      subst ek
      have gH : Gx (mns H [p]) Hy := em1.trans gc
      refine hg ks[i] (.int ks[i]) (wipe σ vs) Hy _ rfl fun σ2 hσ => ⟨(hb _ _ _ _ hσ).trans (wipe_wipe σ vs), ?_⟩
      rw [List.drop_eq_getElem_cons hlt] at hcomp
      rcases comp_cons hcomp with ⟨hc, y, r2, hf, h2, rfl⟩ | ⟨hc, h2⟩
      · refine ht _ σ2 Hy gH hσ true hc Hy Gx.rfl _ fun H3 g3 => ite_tt ?_
        refine he _ σ2 Hy gH hσ y hf H3 g3 _ fun u H4 g4 r4 => ?_
        have gD := g3.trans g4
        have h4 : H4 D = some (.lst vs') := gD _ _ hDc
        have tx : Tx H4 (upd H4 D (.lst (vs' ++ [u]))) := Tx.mut fun xs q => by rw [h4] at q; cases q
        refine ⟨vs', h4, ?_, hlt, (gc.trans gD).mut hD, vs' ++ [u], ys ++ [y], r2, upd_same, ?_, ?_, h2, by simp⟩
        · rw [ral.len]; exact Evl.sz_lt (by omega)
        · exact ((ral.mono fun _ _ => Rp.mono gD).app (Al.one r4)).mono fun _ _ => Im.im tx
        · rw [List.length_append]; simp only [List.length_cons, List.length_nil]; omega
      · refine ht _ σ2 Hy gH hσ false hc Hy Gx.rfl _ fun H3 g3 => ite_ff ?_
        exact ⟨hlt, gc.trans g3, vs', ys, r', g3 _ _ hDc, ral.mono fun _ _ => Rp.mono g3, by omega, h2, rfl⟩
    · have hi : i = ks.length := by omega
      subst hi
      rw [List.drop_length] at hcomp
      cases hcomp
      rw [List.append_nil] at *
      refine .inl ⟨⟨hpc, by rw [hkl]; exact Nat.le_refl _⟩, hpc, ?_⟩
      have tx : Tx Hc (upd Hc p (.dK kvs)) := Tx.mut fun xs q => by rw [hpc] at q; cases q
      refine q D vs' _ hD1 (fun a o h => ?_) (by rw [upd_ne nD]; exact hDc) (ral.mono fun _ _ => Im.im tx)
      by_cases n : a = p
      · rw [n] at h ⊢
        rw [hd1] at h
        cases h
        exact upd_same
      · rw [upd_ne n]
        exact gc _ _ (by rw [upd_ne n]; exact h)
  · rw [if_neg hz] at hr'
    cases hr'
end
end Pu

set_option Elab.async false
set_option linter.all false
set_option maxRecDepth 100000
namespace Pu
open Pu.Rp (rp)
open PySem PySem.Spec PyProof.Rows L2
/-! short names for what a program's text comes to -/
def fAdd (i j : Int) : Option Int := some (i + j)
def fSub (i j : Int) : Option Int := some (i - j)
def fMul (i j : Int) : Option Int := if mulOk i j = true then some (i * j) else none
def fDiv (i j : Int) : Option Int := if 0 < j ∧ j < 1073741824 then some (i / j) else none
def fMod (i j : Int) : Option Int := if 0 < j then some (i % j) else none
def fPow (i j : Int) : Option Int := if powOk i j = true then some (i ^ j.toNat) else none
def fNeg (i : Int) : Option Int := some (-i)
def fLt (i j : Int) : Option Bool := some (decide (i < j))
def fLe (i j : Int) : Option Bool := some (decide (i ≤ j))
def fGt (i j : Int) : Option Bool := some (decide (j < i))
def fGe (i j : Int) : Option Bool := some (decide (j ≤ i))
def fEq {A : Type} [DecidableEq A] (x y : A) : Option Bool := some (decide (x = y))
def fNe {A : Type} [DecidableEq A] (x y : A) : Option Bool := some (!decide (x = y))
def fIxT {A : Type} (x : Tl A) (i : Int) : Option A := ix x.l i
def fLen {A : Type} (x : List A) : Option Int := some (x.length : Int)
def fLenT {A : Type} (x : Tl A) : Option Int := some (x.l.length : Int)
def fLenS (x : Scr) : Option Int := some (x.l.length : Int)
def fMax (i j : Int) : Option Int := some (imax i j)
def fMin (i j : Int) : Option Int := some (imin i j)
def fSum (x : List Int) : Option Int := some x.sum
def fAny (x : List Bool) : Option Bool := some (x.any id)
def fAll (x : List Bool) : Option Bool := some (x.all id)
def fSortI (x : List Int) : Option (List Int) := some (isort x)
def fSortP (x : List (Int × Int)) : Option (List (Int × Int)) := some (psort x)
def fSortPT (x : Tl (Int × Int)) : Option (List (Int × Int)) := some (psort x.l)
def fList {A : Type} (x : List A) : Option (List A) := some x
def fListT {A : Type} (x : Tl A) : Option (List A) := some x.l
def fTuple {A : Type} (x : List A) : Option (Tl A) := some ⟨x⟩
def fPair {A B : Type} (x : A) (y : B) : Option (A × B) := some (x, y)
def fTrip {A B C : Type} (x : A) (y : B) (z : C) : Option (T3 A B C) := some ⟨x, y, z⟩
def fCons {A : Type} (x : A) (y : List A) : Option (List A) := some (x :: y)
def fCut {A : Type} (x : List A) (l h : Option Int) : Option (List A) := some (cutM x l h)
def fCutS (x : Scr) (l h : Option Int) : Option (List Int) := some (cutM x.l l h)
def fCutT {A : Type} (x : Tl A) (l h : Option Int) : Option (Tl A) := some ⟨cutM x.l l h⟩
def fStep {A : Type} (n : Nat) (x : List A) (l h : Option Int) : Option (List A) := some (stepM x l h n)
def fCat {A : Type} (x y : List A) : Option (List A) := szOk (x ++ y)
def fCatT {A : Type} (x y : Tl A) : Option (Tl A) := (szOk (x.l ++ y.l)).map Tl.mk
def fTup {A : Type} (x : List A) : Option (Tl A) := (szOk x).map Tl.mk
def fFst {A B : Type} (x : A × B) : Option A := some x.1
def fSnd {A B : Type} (x : A × B) : Option B := some x.2
def fTru {A : Type} (x : List A) : Option Bool := some (!x.isEmpty)
def fTruT {A : Type} (x : Tl A) : Option Bool := some (!x.l.isEmpty)
def fZip {A B : Type} (x : List A) (y : List B) : Option (List (A × B)) := some (x.zip y)
def fZip3 {A B C : Type} (x : List A) (y : List B) (z : List C) : Option (List (T3 A B C)) := some (zip3 x y z)
def fRng1 (j : Int) : Option (List Int) := if rgOk j = true then some (rng 0 j) else none
def fRng2 (i j : Int) : Option (List Int) := if rgOk i = true ∧ rgOk j = true then some (rng i j) else none
def fRev {A : Type} (x : List A) : Option (List A) := some x.reverse
def sins (x : Int) : List Int -> List Int
  | [] => [x]
  | y :: r => if x < y then x :: y :: r else if x = y then y :: r else y :: sins x r
/-- what sorted(set(..)) tells -/
def sset (x : List Int) : List Int := x.foldr sins []
def fSortSet (x : List Int) : Option (List Int) := if x.length ≤ 1000 then some (sset x) else none
theorem mem_sins {x k : Int} : forall {l : List Int}, k ∈ sins x l ↔ k = x ∨ k ∈ l
  | [] => by simp [sins]
  | y :: r => by
    have ih := mem_sins (x := x) (k := k) (l := r)
    unfold sins
    split
    · simp
    · split
      · rename_i h; subst h; simp
      · simp only [List.mem_cons, ih]
        constructor
        · rintro (h | h | h)
          · exact .inr (.inl h)
          · exact .inl h
          · exact .inr (.inr h)
        · rintro (h | h | h)
          · exact .inr (.inl h)
          · exact .inl h
          · exact .inr (.inr h)
theorem mem_sset {k : Int} : forall {x : List Int}, k ∈ sset x ↔ k ∈ x
  | [] => by simp [sset]
  | y :: r => by
    have ih := mem_sset (k := k) (x := r)
    show k ∈ sins y (sset r) ↔ _
    rw [mem_sins, ih, List.mem_cons]
theorem pw_sins {x : Int} : forall {l : List Int}, l.Pairwise (· < ·) -> (sins x l).Pairwise (· < ·)
  | [], _ => by simp [sins]
  | y :: r, h => by
    have h' := List.pairwise_cons.mp h
    unfold sins
    split
    · rename_i hl
      refine List.pairwise_cons.mpr ⟨fun z hz => ?_, h⟩
      rcases List.mem_cons.mp hz with rfl | hz
      · exact hl
      · exact Int.lt_trans hl (h'.1 z hz)
    · split
      · exact h
      · refine List.pairwise_cons.mpr ⟨fun z hz => ?_, pw_sins h'.2⟩
        rcases mem_sins.mp hz with rfl | hz
        · omega
        · exact h'.1 z hz
theorem pw_sset : forall x : List Int, (sset x).Pairwise (· < ·)
  | [] => .nil
  | y :: r => pw_sins (pw_sset r)
theorem lt_uniq {xs ys : List Int} (h1 : xs.Pairwise (· < ·)) (h2 : ys.Pairwise (· < ·)) (hm : forall k, k ∈ xs ↔ k ∈ ys) : xs = ys :=
  pw_uniq ((List.perm_ext_iff_of_nodup (h1.imp fun h => Int.ne_of_lt h) (h2.imp fun h => Int.ne_of_lt h)).mpr hm) (h1.imp fun h => Int.le_of_lt h) (h2.imp fun h => Int.le_of_lt h)
def oComp {I A : Type} (c : I -> Option Bool) (f : I -> Option A) (mx : Option (List I)) : Option (List A) := mx.bind fun xs => (lim 100000 xs).bind (comp c f)
def oChain {A B C : Type} (f : A -> B -> Option Bool) (g : B -> C -> Option Bool) (ma : Option A) (mb : Option B) (mc : Option C) : Option Bool :=
  ma.bind fun a => mb.bind fun b => (f a b).bind fun k => if k = true then mc.bind fun c => g b c else some false
def fYes {A : Type} (_ : A) : Option Bool := some true
theorem itt {A : Type} {a b r : A} (h : (if true = true then a else b) = r) : a = r := h
theorem itf {A : Type} {a b r : A} (h : (if false = true then a else b) = r) : b = r := h
section
variable {K : Fg} {A B C D : Type} [Rp A] [Rp B] [Rp C] [Rp D]
variable {σ : L2.St} {G G' H H' : Hp} {L L1 L2' : Led} {M : List Addr} {te ta tb tc td : TE} {tt tu : TT} {X : Ends} {t1 t2 u : TS} {i : Nat} {ma : Option A} {mb : Option B} {mc : Option C} {mi mj : Option Int}
theorem x_add (ha : EvB K ta σ H mi) (hb : EvB K tb σ H mj) : EvB K (tOp (rI0 fun i j => .int (i + j)) ta tb) σ H (o2 fAdd mi mj) := eb_op rb_add ha hb
theorem x_sub (ha : EvB K ta σ H mi) (hb : EvB K tb σ H mj) : EvB K (tOp (rI0 fun i j => .int (i - j)) ta tb) σ H (o2 fSub mi mj) := eb_op rb_sub ha hb
theorem x_mul (ha : EvB K ta σ H mi) (hb : EvB K tb σ H mj) : EvB K (tOp (rI CMul fun i j => .int (i * j)) ta tb) σ H (o2 fMul mi mj) := eb_op rb_mul ha hb
theorem x_div (ha : EvB K ta σ H mi) (hb : EvB K tb σ H mj) : EvB K (tOp (rI CDiv fun i j => .int (i / j)) ta tb) σ H (o2 fDiv mi mj) := eb_op rb_fdiv ha hb
theorem x_mod (ha : EvB K ta σ H mi) (hb : EvB K tb σ H mj) : EvB K (tOp (rI (fun _ j => 0 < j) fun i j => .int (i % j)) ta tb) σ H (o2 fMod mi mj) := eb_op rb_mod ha hb
theorem x_pow (ha : EvB K ta σ H mi) (hb : EvB K tb σ H mj) : EvB K (tOp (rI CPow fun i j => .int (i ^ j.toNat)) ta tb) σ H (o2 fPow mi mj) := eb_op rb_pow ha hb
theorem x_neg (ha : EvB K ta σ H mi) : EvB K (tUn (rU fun i => .int (-i)) ta) σ H (o1 fNeg mi) := eb_un rb_neg ha
theorem x_lt (ha : EvB K ta σ H mi) (hb : EvB K tb σ H mj) : EvB K (tOp (rI0 fun i j => .bl (decide (i < j))) ta tb) σ H (o2 fLt mi mj) := eb_op rb_lt ha hb
theorem x_le (ha : EvB K ta σ H mi) (hb : EvB K tb σ H mj) : EvB K (tOp (rI0 fun i j => .bl (decide (i ≤ j))) ta tb) σ H (o2 fLe mi mj) := eb_op rb_le ha hb
theorem x_gt (ha : EvB K ta σ H mi) (hb : EvB K tb σ H mj) : EvB K (tOp (rI0 fun i j => .bl (decide (j < i))) ta tb) σ H (o2 fGt mi mj) := eb_op rb_gt ha hb
theorem x_ge (ha : EvB K ta σ H mi) (hb : EvB K tb σ H mj) : EvB K (tOp (rI0 fun i j => .bl (decide (j ≤ i))) ta tb) σ H (o2 fGe mi mj) := eb_op rb_ge ha hb
theorem x_eq [DecidableEq A] [Eqd A] {mb : Option A} (h : Eqd.dep A ≤ 64) (ha : EvB K ta σ H ma) (hb : EvB K tb σ H mb) : EvB K (tOp (rEqD K) ta tb) σ H (o2 fEq ma mb) := eb_op (rb_eq h) ha hb
theorem x_ne [DecidableEq A] [Eqd A] {mb : Option A} (h : Eqd.dep A ≤ 64) (ha : EvB K ta σ H ma) (hb : EvB K tb σ H mb) : EvB K (tOp (rNeD K) ta tb) σ H (o2 fNe ma mb) := eb_op (rb_ne h) ha hb
theorem x_lele {mk : Option Int} (ha : EvB K ta σ H mi) (hb : EvB K tb σ H mj) (hc : EvB K tc σ H mk) : EvB K (tChain (rI0 fun i j => .bl (decide (i ≤ j))) (rI0 fun i j => .bl (decide (i ≤ j))) ta tb tc) σ H (oChain fLe fLe mi mj mk) := eb_chain rb_le rb_le ha hb hc
theorem x_ltle {mk : Option Int} (ha : EvB K ta σ H mi) (hb : EvB K tb σ H mj) (hc : EvB K tc σ H mk) : EvB K (tChain (rI0 fun i j => .bl (decide (i < j))) (rI0 fun i j => .bl (decide (i ≤ j))) ta tb tc) σ H (oChain fLt fLe mi mj mk) := eb_chain rb_lt rb_le ha hb hc
theorem x_ixL {ma : Option (List A)} (ha : EvB K ta σ H ma) (hb : EvB K tb σ H mj) : EvB K (tOp (rIxL K) ta tb) σ H (o2 ix ma mj) := eb_op rb_ixL ha hb
theorem x_ixT {ma : Option (Tl A)} (ha : EvB K ta σ H ma) (hb : EvB K tb σ H mj) : EvB K (tOp (rIxT K) ta tb) σ H (o2 fIxT ma mj) := eb_op rb_ixT ha hb
theorem x_fst {ma : Option (A × B)} (ha : EvB K ta σ H ma) : EvB K (tOp (rIxT K) ta (tC (.int 0))) σ H (o1 fFst ma) := eb_fst rfl ha
theorem x_snd {ma : Option (A × B)} (ha : EvB K ta σ H ma) : EvB K (tOp (rIxT K) ta (tC (.int 1))) σ H (o1 fSnd ma) := eb_snd rfl ha
theorem x_lenL {ma : Option (List A)} (ha : EvB K ta σ H ma) : EvB K (tCB (fun xs H Q => ∃ p ys, xs = [.ref p] ∧ (SqL K H p ys ∨ SqT K H p ys) ∧ Q (.int ys.length) H) (tCons ta tNil)) σ H (o1 fLen ma) := eb_lenL ha
theorem x_lenT {ma : Option (Tl A)} (ha : EvB K ta σ H ma) : EvB K (tCB (fun xs H Q => ∃ p ys, xs = [.ref p] ∧ (SqL K H p ys ∨ SqT K H p ys) ∧ Q (.int ys.length) H) (tCons ta tNil)) σ H (o1 fLenT ma) := eb_lenT ha
theorem x_lenS {ma : Option Scr} (ha : EvB K ta σ H ma) : EvB K (tCB (fun xs H Q => ∃ p ys, xs = [.ref p] ∧ (SqL K H p ys ∨ SqT K H p ys) ∧ Q (.int ys.length) H) (tCons ta tNil)) σ H (o1 fLenS ma) := eb_lenS ha
theorem x_max (ha : EvB K ta σ H mi) (hb : EvB K tb σ H mj) : EvB K (tCB (fun xs H Q => ∃ i j, xs = [.int i, .int j] ∧ Q (.int (if j > i then j else i)) H) (tCons ta (tCons tb tNil))) σ H (o2 fMax mi mj) := eb_max2 ha hb
theorem x_min (ha : EvB K ta σ H mi) (hb : EvB K tb σ H mj) : EvB K (tCB (fun xs H Q => ∃ i j, xs = [.int i, .int j] ∧ Q (.int (if j < i then j else i)) H) (tCons ta (tCons tb tNil))) σ H (o2 fMin mi mj) := eb_min2 ha hb
theorem x_sum {ma : Option (List Int)} (ha : EvB K ta σ H ma) : EvB K (tCB (rSum K) (tCons ta tNil)) σ H (o1 fSum ma) := eb_sum ha
theorem x_any {ma : Option (List Bool)} (ha : EvB K ta σ H ma) : EvB K (tCB (rAny K) (tCons ta tNil)) σ H (o1 fAny ma) := eb_any ha
theorem x_all {ma : Option (List Bool)} (ha : EvB K ta σ H ma) : EvB K (tCB (rAll K) (tCons ta tNil)) σ H (o1 fAll ma) := eb_all ha
theorem x_sortI {ma : Option (List Int)} (ha : EvB K ta σ H ma) : EvN K (tCB (rSortedI K) (tCons ta tNil)) σ H (o1 fSortI ma) := en_sorted ha
theorem x_sortP {ma : Option (List (Int × Int))} (ha : EvB K ta σ H ma) : EvN K (tCB (rSortE K) (tCons ta tNil)) σ H (o1 fSortP ma) :=
  call1L (fun H v x c r hc Q q => by
    cases hc
    obtain ⟨p, vs, rfl, h2, h3⟩ := r
    exact ⟨p, vs, x, rfl, .inl h2, h3, fun ys p' hp r => q p' ys hp r⟩) ha
theorem x_sortPT {ma : Option (Tl (Int × Int))} (ha : EvB K ta σ H ma) : EvN K (tCB (rSortE K) (tCons ta tNil)) σ H (o1 fSortPT ma) :=
  call1L (fun H v x c r hc Q q => by
    cases hc
    obtain ⟨p, vs, rfl, h2, h3⟩ := r
    exact ⟨p, vs, x.l, rfl, .inr h2, h3, fun ys p' hp r => q p' ys hp r⟩) ha
/-- sorted(set(xs)) -/
theorem x_sortSet {w : World} {ma : Option (List Int)} (ha : EvB K ta σ H ma) : EvN K (tCB (rSortS w) (tCons (tCB (rSetL1 w) (tCons ta tNil)) tNil)) σ H (o1 fSortSet ma) := fun x hx H1 e Q q => by
  obtain ⟨a, e1, e3⟩ := o1s hx
  unfold fSortSet at e3
  by_cases hz : a.length ≤ 1000
  · rw [if_pos hz] at e3
    cases e3
    refine ha a e1 H1 e _ fun v H2 g2 r2 => ?_
    obtain ⟨p, vs, rfl, h2, h3⟩ := r2
    rw [al_int h3] at h2
    refine ⟨p, a, rfl, h2, hz, fun s c hs hc => ⟨s, _, c, rfl, upd_same, fun ns p' hp1 hm hp => ?_⟩⟩
    have gs := Gx.new (o := SetO w s (fun j => decide (j ∈ a)) c) hs
    have e5 : ns = sset a := lt_uniq hp1 (pw_sset a) fun k => by rw [hm k, decide_eq_true_iff, mem_sset]
    subst e5
    exact q p' _ _ (g2.back (gs.back hp)) ((g2.trans gs).trans (Gx.new hp)) upd_same (int_al _)
  · rw [if_neg hz] at e3; cases e3
theorem x_list {ma : Option (List A)} (ha : EvB K ta σ H ma) : EvN K (tCB (fun xs H Q => ∃ p ys, xs = [.ref p] ∧ (SqL K H p ys ∨ SqT K H p ys) ∧ ∀ l, H l = none → Q (.ref l) (upd H l (.lst ys))) (tCons ta tNil)) σ H (o1 fList ma) := en_list ha
theorem x_listT {ma : Option (Tl A)} (ha : EvB K ta σ H ma) : EvN K (tCB (fun xs H Q => ∃ p ys, xs = [.ref p] ∧ (SqL K H p ys ∨ SqT K H p ys) ∧ ∀ l, H l = none → Q (.ref l) (upd H l (.lst ys))) (tCons ta tNil)) σ H (o1 fListT ma) := en_listT ha
theorem x_tuple {ma : Option (List A)} (ha : EvB K ta σ H ma) : EvB K (tCB (fun xs H Q => ∃ p ys, xs = [.ref p] ∧ ((SqL K H p ys ∧ ∀ l, H l = none → Q (.ref l) (upd H l (.tup ys))) ∨ (SqT K H p ys ∧ Q (.ref p) H))) (tCons ta tNil)) σ H (o1 fTuple ma) := eb_tuple ha
theorem x_pair (ha : EvB K ta σ H ma) (hb : EvB K tb σ H mb) : EvB K (tTup (tCons ta (tCons tb tNil))) σ H (o2 fPair ma mb) := eb_tup2 ha hb
theorem x_trip (ha : EvB K ta σ H ma) (hb : EvB K tb σ H mb) (hc : EvB K tc σ H mc) : EvB K (tTup (tCons ta (tCons tb (tCons tc tNil)))) σ H (o3 fTrip ma mb mc) := eb_tup3 ha hb hc
theorem l_nil : EvL (A := A) K tNil σ H (some []) := el_nil
theorem l_cons {tr : TA} {mr : Option (List A)} (ha : EvB K ta σ H ma) (hr : EvL K tr σ H mr) : EvL K (tCons ta tr) σ H (o2 fCons ma mr) := el_cons ha hr
theorem x_lst {tr : TA} {mr : Option (List A)} (h : EvL K tr σ H mr) : EvN K (tLst tr) σ H (o1 szOk mr) := en_lst h
theorem x_tup {tr : TA} {mr : Option (List A)} (h : EvL K tr σ H mr) : EvB K (tTup tr) σ H (o1 fTup mr) := eb_tupl h
theorem x_cut {tl th : TO} {ma : Option (List A)} {ml mh : Option (Option Int)} (ha : EvB K te σ H ma) (hl : EvP tl σ H ml) (hh : EvP th σ H mh) : EvN K (tSl (rSlL K) te tl th) σ H (o3 fCut ma ml mh) := en_sl ha hl hh
theorem x_cutS {tl th : TO} {ma : Option Scr} {ml mh : Option (Option Int)} (ha : EvB K te σ H ma) (hl : EvP tl σ H ml) (hh : EvP th σ H mh) : EvN K (tSl (rSlL K) te tl th) σ H (o3 fCutS ma ml mh) := en_slS ha hl hh
theorem x_cutT {tl th : TO} {ma : Option (Tl A)} {ml mh : Option (Option Int)} (ha : EvB K te σ H ma) (hl : EvP tl σ H ml) (hh : EvP th σ H mh) : EvB K (tSl (rSlA K) te tl th) σ H (o3 fCutT ma ml mh) := eb_slT ha hl hh
theorem x_step {tl th : TO} {ma : Option (List A)} {ml mh : Option (Option Int)} {n : Nat} (ha : EvB K te σ H ma) (hl : EvP tl σ H ml) (hh : EvP th σ H mh) : EvN K (tSl3 te tl th n) σ H (o3 (fStep n) ma ml mh) := en_sl3 ha hl hh
theorem x_rev {ma : Option (List A)} (ha : EvB K ta σ H ma) : EvN K (tRevL K ta) σ H (o1 fRev ma) := fun x hx H1 e Q q => by
  obtain ⟨a, e1, e3⟩ := o1s hx
  cases e3
  refine ha a e1 H1 e _ fun v H2 g2 r2 => ?_
  obtain ⟨p, vs, rfl, h2, h3⟩ := r2
  exact ⟨p, vs, rfl, SqL.of h2, fun p' hp => q p' _ _ (g2.back hp) (g2.trans (Gx.new hp)) upd_same (h3.rev.mono fun _ _ => Rp.mono (Gx.new hp))⟩
theorem x_cat {ma mb : Option (List A)} (ha : EvB K ta σ H ma) (hb : EvB K tb σ H mb) : EvN K (tOp rCat ta tb) σ H (o2 fCat ma mb) := en_cat ha hb
theorem x_catT {ma mb : Option (Tl A)} (ha : EvB K ta σ H ma) (hb : EvB K tb σ H mb) : EvB K (tOp (rCatA K) ta tb) σ H (o2 fCatT ma mb) := fun x hx H1 e Q q => by
  obtain ⟨a, b, e1, e2, e3⟩ := o2s hx
  obtain ⟨y, e4, e5⟩ := Option.map_eq_some_iff.mp e3
  obtain ⟨rfl, hz⟩ := szOks e4
  subst e5
  refine ha a e1 H1 e _ fun v H2 g2 r2 => hb b e2 H2 (e.trans g2) _ fun w H3 g3 r3 => ?_
  obtain ⟨p, vs, rfl, h2, h3⟩ := Rp.mono g3 r2
  obtain ⟨p2, vs2, rfl, h4, h5⟩ := r3
  refine ⟨p, p2, vs, vs2, rfl, rfl, SqT.of h2, SqT.of h4, ?_, fun h0 => q _ _ (g2.trans g3) ⟨p2, vs2, rfl, h4, ?_⟩, fun _ h0 => q _ _ (g2.trans g3) ⟨p, vs, rfl, h2, ?_⟩, fun _ _ p' hp => q _ _ ((g2.trans g3).trans (Gx.new hp)) ⟨p', _, rfl, upd_same, (h3.app h5).mono fun _ _ => Rp.mono (Gx.new hp)⟩⟩
  · rw [h3.len, h5.len, ← List.length_append]; exact Evl.sz_of hz
  · have := h3.app h5
    rw [h0] at this
    exact this
  · have := h3.app h5
    rw [h0, List.append_nil] at this
    exact this
theorem t_tru {ma : Option (List A)} (ha : EvB K ta σ H ma) : EvT (fun σ H Q => ta σ H fun x H' => ∃ k, TruV K x H' k ∧ Q k H') σ H (o1 fTru ma) := fun b hb H1 e Q q => by
  obtain ⟨a, e1, e3⟩ := o1s hb
  cases e3
  refine ha a e1 H1 e _ fun v H2 g2 r2 => ?_
  obtain ⟨p, vs, rfl, h2, h3⟩ := r2
  refine ⟨_, .inl ⟨vs, SqL.of h2, rfl⟩, ?_⟩
  have e6 : (!vs.isEmpty) = !a.isEmpty := by
    have := h3.len
    cases vs <;> cases a <;> first | rfl | (simp at this)
  rw [e6]
  exact q H2 g2
theorem t_truT {ma : Option (Tl A)} (ha : EvB K ta σ H ma) : EvT (fun σ H Q => ta σ H fun x H' => ∃ k, TruV K x H' k ∧ Q k H') σ H (o1 fTruT ma) := fun b hb H1 e Q q => by
  obtain ⟨a, e1, e3⟩ := o1s hb
  cases e3
  refine ha a e1 H1 e _ fun v H2 g2 r2 => ?_
  obtain ⟨p, vs, rfl, h2, h3⟩ := r2
  refine ⟨_, .inr (.inl ⟨vs, SqT.of h2, rfl⟩), ?_⟩
  have e6 : (!vs.isEmpty) = !a.l.isEmpty := by
    have := h3.len
    cases e7 : a.l <;> cases vs <;> first | rfl | (rw [e7] at this; simp at this)
  rw [e6]
  exact q H2 g2
theorem i_zip {ma : Option (List A)} {mb : Option (List B)} (h : EvS K ta σ M H ma) (h' : EvS K tb σ M H mb) : EvI K (iZip K (tCons ta (tCons tb tNil))) σ M H (o2 fZip ma mb) := ei_zip h h'
theorem i_zip3 {ma : Option (List A)} {mb : Option (List B)} {mc : Option (List C)} (h : EvS K ta σ M H ma) (h' : EvS K tb σ M H mb) (h2 : EvS K tc σ M H mc) : EvI K (iZip3 K (tCons ta (tCons tb (tCons tc tNil)))) σ M H (o3 fZip3 ma mb mc) := ei_zip3 h h' h2
theorem i_rng1 (h : EvB K ta σ H mi) : EvI K (iRng1 (tCons ta tNil)) σ M H (o1 fRng1 mi) := ei_rng1 h
theorem i_rng2 (h : EvB K ta σ H mi) (h' : EvB K tb σ H mj) : EvI K (iRng2 (tCons ta (tCons tb tNil))) σ M H (o2 fRng2 mi mj) := ei_rng2 h h'
theorem i_list {ma : Option (List A)} (h : EvS K ta σ M H ma) : EvI K (iList K ta) σ M H ma := ei_list h
theorem i_tup {ma : Option (Tl A)} (h : EvS K ta σ M H ma) : EvI K (iTup K ta) σ M H (ma.map Tl.l) := ei_tup h
theorem i_enum {ma : Option (List A)} (h : EvS K ta σ M H ma) : EvI K (iEnum K (tCons ta tNil)) σ M H (ma.map enum) := ei_enum h
/-- a new list is not among what may change -/
theorem es_n [Im A] {ma : Option (List A)} (h : EvN K te σ H ma) (hM : forall p, p ∈ M -> exists o, H p = some o ∧ Mu o) : EvS K te σ M H ma := fun x hx H1 e1 Q q => h x hx H1 e1 Q fun p vs H2 hp g h2 r => by
  have np : p ∉ M := fun z => by
    obtain ⟨o, ho, _⟩ := hM p z
    rw [e1 _ _ ho] at hp; cases hp
  refine q (.ref p) H2 g ⟨p, vs, rfl, (mns_out np).trans h2, r.mono fun _ _ => Im.im fun b xs hb => ?_⟩
  have z : b ∉ M := fun y => by
    obtain ⟨o, ho, mu⟩ := hM b y
    have := (e1.trans g) b o ho
    rw [this] at hb
    rw [Option.some.inj hb] at mu
    exact mu
  exact (mns_out z).trans hb
theorem x_lc {I : Type} [Rp I] [Im A] {wi : TI} {g : TG} {b : Bd I} {vs : List Nat} {mx : Option (List I)} {c : I -> Option Bool} {f : I -> Option A} (hi : EvI K wi σ [] H mx) (hg : TgOk K g b) (hb : BdIn b vs)
    (ht : forall x σ2 H', Gx H H' -> b x (wipe σ vs) H' σ2 -> EvT tt σ2 H' (c x)) (he : forall x σ2 H', Gx H H' -> b x (wipe σ vs) H' σ2 -> EvB K te σ2 H' (f x)) : EvN K (tLc wi g tt te vs) σ H (oComp c f mx) := en_lc hi hg hb ht he
theorem x_lcK [Im A] {g : TG} {b : Bd Int} {vs : List Nat} {p : Addr} {kvs : List (Key × V)} {F : V -> B -> Prop} {d : List (Int × B)} {c : Int -> Option Bool} {f : Int -> Option A} (hs : σ[i]? = some (some (.ref p))) (hd : H p = some (.dK kvs)) (hr : Da F kvs d) (hg : TgOk K g b) (hb : BdIn b vs)
    (ht : forall x σ2 H', Gx (mns H [p]) H' -> b x (wipe σ vs) H' σ2 -> EvT tt σ2 H' (c x)) (he : forall x σ2 H', Gx (mns H [p]) H' -> b x (wipe σ vs) H' σ2 -> EvB K te σ2 H' (f x)) : EvN K (tLockE (tLc (iKeys (tVar i)) g tt te vs)) σ H (oComp c f (some (d.map (·.1)))) := en_lcK hs hd hr hg hb ht he
theorem t_yes : EvT tYes σ H (some true) := fun b hb H1 e Q q => by
  cases hb
  exact q H1 Gx.rfl
end
end Pu

set_option Elab.async false
set_option linter.all false
set_option maxRecDepth 100000
namespace Pu
open Pu.Rp (rp)
open PySem PySem.Spec PyProof.Rows L2
/-! helpers for printed proofs -/
def fApp {A : Type} (xs : List A) (y : A) : Option (List A) := if xs.length < 100000 then some (xs ++ [y]) else none
theorem fApps {A : Type} {xs zs : List A} {y : A} (h : fApp xs y = some zs) : zs = xs ++ [y] ∧ xs.length < 100000 := by
  unfold fApp at h
  split at h
  · cases h; exact ⟨rfl, by assumption⟩
  · cases h
def fExt {A : Type} (xs ys : List A) : Option (List A) := if xs.length + ys.length ≤ 100000 then some (xs ++ ys) else none
theorem fExts {A : Type} {xs zs ys : List A} (h : fExt xs ys = some zs) : zs = xs ++ ys ∧ xs.length + ys.length ≤ 100000 := by
  unfold fExt at h
  split at h
  · cases h; exact ⟨rfl, by assumption⟩
  · cases h
def fSetL {A : Type} (xs : List A) (i : Int) (y : A) : Option (List A) := (ixN xs.length i).map fun j => xs.set j y
theorem fSets {A : Type} {xs zs : List A} {i : Int} {y : A} (h : fSetL xs i y = some zs) : exists j, ixN xs.length i = some j ∧ zs = xs.set j y := by
  obtain ⟨j, h1, h2⟩ := Option.map_eq_some_iff.mp h
  exact ⟨j, h1, h2.symm⟩
/-- the last one, and what is ahead of it -/
def fPop {A : Type} (xs : List A) : Option (A × List A) := (xs[xs.length - 1]?).map fun x => (x, xs.dropLast)
theorem fPops {A : Type} {xs : List A} {r : A × List A} (h : fPop xs = some r) : xs[xs.length - 1]? = some r.1 ∧ r.2 = xs.dropLast := by
  obtain ⟨x, h1, h2⟩ := Option.map_eq_some_iff.mp h
  subst h2
  exact ⟨h1, rfl⟩
def fDput {B : Type} (d : List (Int × B)) (k : Int) (x : B) : Option (List (Int × B)) := if d.length < 100000 then some (dput d k x) else none
theorem fDputs {B : Type} {d r : List (Int × B)} {k : Int} {x : B} (h : fDput d k x = some r) : r = dput d k x ∧ d.length < 100000 := by
  unfold fDput at h
  split at h
  · cases h; exact ⟨rfl, by assumption⟩
  · cases h
theorem At.hM {G H : Hp} {L : Led} {M : List Addr} (a : At G H L) (h : forall p, p ∈ M -> p ∈ L.map (·.1)) : forall p, p ∈ M -> G p = none := fun p hp => by
  obtain ⟨o, ho, e⟩ := List.mem_map.mp (h p hp)
  rw [← e]
  exact (a.led o ho).2.1
theorem At.hMu {G H : Hp} {L : Led} {M : List Addr} (a : At G H L) (h : forall p, p ∈ M -> p ∈ L.map (·.1)) : forall p, p ∈ M -> exists o, H p = some o ∧ Mu o := fun p hp => by
  obtain ⟨o, ho, e⟩ := List.mem_map.mp (h p hp)
  rw [← e]
  exact ⟨o.2, (a.led o ho).1, (a.led o ho).2.2⟩
theorem At.mn {G H : Hp} {L : Led} {M : List Addr} (a : At G H L) (h : forall p, p ∈ M -> p ∈ L.map (·.1)) : Gx G (mns H M) := mns_of a.ex (a.hM h)
section
variable {K : Fg} {A : Type} [Rp A] {G H : Hp} {L : Led} {M : List Addr} {σ : L2.St} {i : Nat}
theorem es_mv {p : Addr} {vs : List V} {xs : List A} (hs : σ[i]? = some (some (.ref p))) (a : At G H L) (hp : (p, HO.lst vs) ∈ L) (r : Al (rp K G) vs xs) (h : forall p, p ∈ M -> p ∈ L.map (·.1)) (hn : p ∉ M) : EvS K (tVar i) σ M H (some xs) := fun x hx H1 e1 Q q => by
  cases hx
  refine ⟨_, hs, q _ H1 Gx.rfl ⟨p, vs, rfl, (mns_out hn).trans (e1 _ _ (a.led _ hp).1), r.mono fun _ _ => Rp.mono ((a.mn h).trans (mns_mono e1))⟩⟩
end
end Pu
namespace Pu
open Pu.Rp (rp)
open PySem PySem.Spec PyProof.Rows L2
theorem finr {S R : Type} {k : S -> Option R} {res : S ⊕ R} {r r' : R} (h : res = .inr r) (hm : fin k res = some r') : r = r' := by
  subst h
  exact Option.some.inj hm
theorem brar {S S' R : Type} {k : S -> Option (S' ⊕ R)} {res : S ⊕ R} {r : R} {o : S' ⊕ R} (h : res = .inr r) (hm : braR k res = some o) : o = .inr r := by
  subst h
  exact (Option.some.inj hm).symm
theorem finl {S R : Type} {k : S -> Option R} {s : S} {r : Option R} (hm : fin k (.inl s) = r) : k s = r := hm
theorem bral {S S' R : Type} {k : S -> Option (S' ⊕ R)} {s : S} {r : Option (S' ⊕ R)} (hm : braR k (.inl s) = r) : k s = r := hm
theorem al_dl {A : Type} {F : V -> A -> Prop} {vs : List V} {xs : List A} (q : Al F vs xs) : Al F vs.dropLast xs.dropLast := by
  rw [List.dropLast_eq_take, List.dropLast_eq_take, q.len]
  exact q.take _
section
variable {K : Fg} {A B : Type} [Rp A] [Rp B] {G H : Hp} {L : Led} {M : List Addr} {σ : L2.St} {te ta : TE} {t1 u : TS} {X : Ends} {j i : Nat}
/-- a list whose items stand as they stood ahead of the loop -/
def WkL (K : Fg) (J : It) (xs : List A) (S : Hp) : Prop :=
  (forall i H, i < xs.length -> Gx S H -> J.go i H) ∧ (forall H, Gx S H -> J.stop xs.length H) ∧ (forall i H v H' x, Gx S H -> xs[i]? = some x -> J.yld i H v H' -> H' = H ∧ rp K S v x)
def EvJ (K : Fg) (wi : TI) (σ : L2.St) (M : List Addr) (H : Hp) (m : Option (List A)) : Prop :=
  forall xs, m = some xs -> forall H1, Gx H H1 -> forall R : It -> Hp -> Prop, (forall J H2, Gx H1 H2 -> WkL K J xs (mns H2 M) -> R J H2) -> wi σ H1 R
theorem j_list {ma : Option (List A)} (h : EvS K ta σ M H ma) : EvJ K (iList K ta) σ M H ma := fun xs hx H1 e R q =>
  h xs hx H1 e _ fun v H2 g r => by
    obtain ⟨a, vs, rfl, h2, h3⟩ := r
    refine ⟨a, rfl, ⟨vs, SqL.of (mns_ex _ _ h2)⟩, q _ H2 g ⟨fun i H hi e => ?_, fun H e => ⟨vs, SqL.of (e _ _ h2), by rw [h3.len]; exact Nat.le_refl _⟩, fun i H v H' x e hx y => ?_⟩⟩
    · obtain ⟨v, hv, _⟩ := h3.get (List.getElem?_eq_getElem hi)
      exact ⟨vs, v, SqL.of (e _ _ h2), hv⟩
    · obtain ⟨rfl, y⟩ := y
      obtain ⟨w, hw, rw'⟩ := h3.get hx
      have q := y vs (SqL.of (e _ _ h2))
      rw [hw] at q
      cases q
      exact ⟨rfl, rw'⟩
theorem st_forJ {wi : TI} {g : TG} {mx : Option (List A)} {xs : List A} (hi : EvJ K wi σ M H mx) (hx : mx = some xs)
    (k : forall J H2, Gx H H2 -> WkL K J xs (mns H2 M) -> exists W : Nat -> Nat -> L2.St -> Hp -> Prop, (exists m, W 0 m σ H2) ∧ forall i m σ H, W i m σ H ->
      (J.stop i H ∧ u X σ H) ∨ (J.go i H ∧ exists N : L2.St -> Hp -> Prop, (forall σ' H', N σ' H' -> exists m', m' < m ∧ W (i + 1) m' σ' H') ∧ forall x H', J.yld i H x H' -> g x σ H' fun σ2 H2 => t1 { X with nx := N, ct := N, bk := u X } σ2 H2)) : tSeq (tFor wi g t1) u X σ H :=
  hi xs hx H Gx.rfl _ fun J H2 e wk => k J H2 e wk
theorem fold_runJ {S : Type} {J : It} {xs : List A} {Sh : Hp} {f : S -> A -> Option S} {s0 s1 : S} {E0 : Ends} {H2 : Hp} {E1 : L2.St -> Hp -> Prop} (wk : WkL K J xs Sh) (hl : foldO f s0 xs = some s1)
    (In : S -> L2.St -> Hp -> Prop) (hS : forall s σ' H', In s σ' H' -> Gx Sh H') (h0 : In s0 σ H2)
    (hs : forall s x s' σ' H' v, x ∈ xs -> f s x = some s' -> In s σ' H' -> rp K Sh v x -> t1 { E0 with nx := In s', ct := In s', bk := E1 } (σ'.set j (some v)) H')
    (hd : forall σ' H', In s1 σ' H' -> E1 σ' H') :
    exists W : Nat -> Nat -> L2.St -> Hp -> Prop, (exists m, W 0 m σ H2) ∧ forall i m σ H, W i m σ H ->
      (J.stop i H ∧ E1 σ H) ∨ (J.go i H ∧ exists N : L2.St -> Hp -> Prop, (forall σ' H', N σ' H' -> exists m', m' < m ∧ W (i + 1) m' σ' H') ∧ forall x H', J.yld i H x H' -> gName j x σ H' fun σ2 H2 => t1 { E0 with nx := N, ct := N, bk := E1 } σ2 H2) := by
  refine ⟨fun i m σ H => m = xs.length - i ∧ i ≤ xs.length ∧ exists s, In s σ H ∧ foldO f s (xs.drop i) = some s1, ⟨xs.length, by simp, Nat.zero_le _, s0, h0, hl⟩, ?_⟩
  rintro i m σ' Hc ⟨rfl, hle, s, hin, hm⟩
  have gS := hS _ _ _ hin
  obtain ⟨go, stop, yld⟩ := wk
  by_cases hlt : i < xs.length
  · rw [List.drop_eq_getElem_cons hlt] at hm
    cases hf : f s xs[i] with
    | none => unfold foldO at hm; rw [hf] at hm; cases hm
    | some s' =>
      have hm' : foldO f s' (xs.drop (i + 1)) = some s1 := by
        unfold foldO at hm; rw [hf] at hm; exact hm
      refine .inr ⟨go i Hc hlt gS, In s', fun σ3 H3 hN => ⟨xs.length - (i + 1), by omega, rfl, hlt, s', hN, hm'⟩, fun v Hy hy => ?_⟩
      obtain ⟨rfl, ry⟩ := yld i Hc v Hy _ gS (List.getElem?_eq_getElem hlt) hy
      exact hs s xs[i] s' σ' _ v (List.getElem_mem hlt) hf hin ry
  · have hi : i = xs.length := by omega
    subst hi
    rw [List.drop_length] at hm
    cases hm
    exact .inl ⟨stop Hc gS, hd σ' Hc hin⟩
/-- a comprehension whose elements are new lists -/
theorem x_lcL {I : Type} [Rp I] [Im A] {wi : TI} {g : TG} {b : Bd I} {vs : List Nat} {mx : Option (List I)} {c : I -> Option Bool} {f : I -> Option (List A)} {tt : TT} (hi : EvI K wi σ [] H mx) (hg : TgOk K g b) (hb : BdIn b vs)
    (ht : forall x σ2 H', Gx H H' -> b x (wipe σ vs) H' σ2 -> EvT tt σ2 H' (c x)) (he : forall x σ2 H', Gx H H' -> b x (wipe σ vs) H' σ2 -> EvN K te σ2 H' (f x)) : EvB K (tLc wi g tt te vs) σ H (oComp c f mx) := fun r hr H1 e1 Q q => by
  cases mx with
  | none => cases hr
  | some xs =>
    have hr' : (lim 100000 xs).bind (comp c f) = some r := hr
    unfold lim at hr'
    by_cases hz : xs.length ≤ 100000
    · rw [if_pos hz] at hr'
      have hr2 : comp c f xs = some r := hr'
      refine hi xs rfl H1 e1 _ fun J H2 e2 wk => ?_
      rw [mns_nil] at wk
      intro D hD
      obtain ⟨go, stop, yld⟩ := wk
      refine ⟨fun i m Hc => m = xs.length - i ∧ i ≤ xs.length ∧ Gx H2 Hc ∧ exists vs' ys r', Hc D = some (.lst vs') ∧ Al (rp K (mns Hc [D])) vs' ys ∧ ys.length ≤ i ∧ comp c f (xs.drop i) = some r' ∧ r = ys ++ r',
        ⟨xs.length, by simp, Nat.zero_le _, Gx.new hD, [], [], r, upd_same, trivial, Nat.le_refl _, hr2, rfl⟩, ?_⟩
      rintro i m Hc ⟨rfl, hle, gc, vs', ys, r', hDc, ral, hlen, hcomp, rfl⟩
      by_cases hlt : i < xs.length
      · refine .inr ⟨go i Hc hlt gc, fun Hn => i + 1 ≤ xs.length ∧ Gx H2 Hn ∧ exists vs' ys' r'', Hn D = some (.lst vs') ∧ Al (rp K (mns Hn [D])) vs' ys' ∧ ys'.length ≤ i + 1 ∧ comp c f (xs.drop (i + 1)) = some r'' ∧ ys ++ r' = ys' ++ r'',
          fun Hn hn => ⟨xs.length - (i + 1), by omega, rfl, hn.1, hn.2⟩, fun v Hy hy => ?_⟩
        have hx := List.getElem?_eq_getElem hlt
        obtain ⟨gy, ry⟩ := yld i Hc v Hy _ gc hx hy
        have gH : Gx H Hy := (e1.trans e2).trans (gc.trans gy)
        refine hg _ v (wipe σ vs) Hy _ ry fun σ2 hσ => ⟨(hb _ _ _ _ hσ).trans (wipe_wipe σ vs), ?_⟩
        rw [List.drop_eq_getElem_cons hlt] at hcomp
        rcases comp_cons hcomp with ⟨hc, y, r2, hf, h2, rfl⟩ | ⟨hc, h2⟩
        · refine ht _ σ2 Hy gH hσ true hc Hy Gx.rfl _ fun H3 g3 => ite_tt ?_
          refine he _ σ2 Hy gH hσ y hf H3 g3 _ fun p' ws H4 hp' g4 h4p r4 => ?_
          have gD := gy.trans (g3.trans g4)
          have h4 : H4 D = some (.lst vs') := gD _ _ hDc
          have h3 : H3 D = some (.lst vs') := (gy.trans g3) _ _ hDc
          have np : p' ≠ D := fun z => by rw [z, h3] at hp'; cases hp'
          have tx : Tx H4 (mns (upd H4 D (.lst (vs' ++ [.ref p']))) [D]) := fun a xs q => by
            have na : a ≠ D := fun z => by rw [z, h4] at q; cases q
            rw [mns_out (by simpa using na), upd_ne na]; exact q
          have gm : Gx (mns Hc [D]) (mns (upd H4 D (.lst (vs' ++ [.ref p']))) [D]) := fun a o q => by
            have na : a ≠ D := fun z => by rw [z, mns_in (by simp)] at q; cases q
            rw [mns_out (by simpa using na)] at q
            rw [mns_out (by simpa using na), upd_ne na]; exact gD _ _ q
          refine ⟨vs', h4, ?_, hlt, (gc.trans gD).mut hD, vs' ++ [.ref p'], ys ++ [y], r2, upd_same, (ral.mono fun _ _ => Rp.mono gm).app (Al.one ⟨p', ws, rfl, ?_, r4.mono fun _ _ => Im.im tx⟩), ?_, h2, by simp⟩
          · rw [ral.len]; exact Evl.sz_lt (by omega)
          · rw [mns_out (by simpa using np), upd_ne np]; exact h4p
          · rw [List.length_append]; simp only [List.length_cons, List.length_nil]; omega
        · refine ht _ σ2 Hy gH hσ false hc Hy Gx.rfl _ fun H3 g3 => ite_ff ?_
          exact ⟨hlt, (gc.trans gy).trans g3, vs', ys, r', (gy.trans g3) _ _ hDc, ral.mono fun _ _ => Rp.mono (mns_mono (gy.trans g3)), by omega, h2, rfl⟩
      · have hi : i = xs.length := by omega
        subst hi
        rw [List.drop_length] at hcomp
        cases hcomp
        rw [List.append_nil] at *
        exact .inl ⟨stop Hc gc, q (.ref D) Hc (e2.trans gc) ⟨D, vs', rfl, hDc, ral.mono fun _ _ => Rp.mono mns_ex⟩⟩
    · rw [if_neg hz] at hr'
      cases hr'
theorem st_asg2 {m : Option A} {x : A} (h : EvO K te σ G H m) (hm : m = some x) (a : At G H L) (k : forall v G2 H2, Gx G G2 -> Gx H H2 -> At G2 H2 L -> rp K G2 v x -> u X ((σ.set i (some v)).set j (some v)) H2) : tSeq (tAsg2 te (gName i) (gName j)) u X σ H :=
  h x hm G H L Gx.rfl Gx.rfl a _ fun v G2 H2 g e a2 r => k v G2 H2 g e a2 r
end
end Pu

set_option Elab.async false
set_option linter.all false
set_option maxRecDepth 100000
namespace Pu
open Pu.Rp (rp)
open PySem PySem.Spec PyProof.Rows L2
/-! isinstance where the type is known -/
class Tyd (A : Type) [Rp A] where
  nm : String
  ty : forall {K : Fg} {H : Hp} {v : V} {x : A}, rp K H v x -> TyX K H v (.type nm)
instance : Tyd Int := ⟨"int", fun h => by cases h; exact .base (.int _)⟩
instance : Tyd Bool := ⟨"bool", fun h => by cases h; exact .base (.bl _)⟩
instance : Tyd Str := ⟨"str", fun h => by cases h; exact .base (.str _)⟩
instance : Tyd Unit := ⟨"NoneType", fun h => by cases h; exact .base .non⟩
instance {A B : Type} [Rp A] [Rp B] : Tyd (A × B) := ⟨"tuple", fun h => by obtain ⟨a, u, w, rfl, h2, _⟩ := h; exact .base (.tup h2)⟩
instance {A B C : Type} [Rp A] [Rp B] [Rp C] : Tyd (T3 A B C) := ⟨"tuple", fun h => by obtain ⟨a, u, w, z, rfl, h2, _⟩ := h; exact .base (.tup h2)⟩
instance {A : Type} [Rp A] : Tyd (Tl A) := ⟨"tuple", fun h => by obtain ⟨a, vs, rfl, h2, _⟩ := h; exact .base (.tup h2)⟩
instance {A : Type} [Rp A] : Tyd (List A) := ⟨"list", fun h => by obtain ⟨a, vs, rfl, h2, _⟩ := h; exact .base (.lst h2)⟩
def fIs {A : Type} (b : Bool) (_ : A) : Option Bool := some b
def fLen2 {A B : Type} (_ : A × B) : Option Int := some 2
section
variable {K : Fg} {A B C : Type} [Rp A] [Rp B] [Rp C] {σ : L2.St} {H : Hp} {ta : TE} {ma : Option A}
theorem x_isi [Tyd A] {n : String} {b : Bool} (h : PySem.W.kitOne K (.type (Tyd.nm A)) (.type n) = some b) (ha : EvB K ta σ H ma) : EvB K (tCB (rIsi K) (tCons ta (tCons (tC (.ty n)) tNil))) σ H (o1 (fIs b) ma) := fun x hx H1 e Q q => by
  obtain ⟨a, e1, e3⟩ := o1s hx
  cases e3
  exact ha a e1 H1 e _ fun v H2 g2 r2 => ⟨v, .ty n, _, _, b, rfl, .ty n, Tyd.ty r2, h, q _ H2 g2 rfl⟩
theorem x_len2 {ma : Option (A × B)} (ha : EvB K ta σ H ma) : EvB K (tCB (fun xs H Q => ∃ p ys, xs = [.ref p] ∧ (SqL K H p ys ∨ SqT K H p ys) ∧ Q (.int ys.length) H) (tCons ta tNil)) σ H (o1 fLen2 ma) :=
  call1 (fun H v x c r hc Q q => by
    cases hc
    obtain ⟨p, u, w, rfl, h2, h3⟩ := r
    exact ⟨p, _, rfl, .inr (SqT.of h2), q _ H Gx.rfl rfl⟩) ha
end
section
variable {K : Fg} {A : Type} [Rp A] {H : Hp} {L : Led}
theorem Gx.mutA {S G : Hp} {p : Addr} {o : HO} (e : Gx S H) (n : S p = none) (_ : At G (upd H p o) L) : Gx S (upd H p o) := e.mut n
theorem heapB {r : A} {Q : VK} (q : forall w H2, Gx H H2 -> rp K H2 w r -> Q w H2) : exists H0, Gx H0 H ∧ forall w H2, Gx H0 H2 -> rp K H2 w r -> Q w H2 := ⟨H, Gx.rfl, q⟩
theorem heapN {r : List A} {Q : VK} (q : forall p ws H2, H p = none -> Gx H H2 -> H2 p = some (.lst ws) -> Al (rp K H2) ws r -> Q (.ref p) H2) : exists H0, Gx H0 H ∧ forall p ws H2, H0 p = none -> Gx H0 H2 -> H2 p = some (.lst ws) -> Al (rp K H2) ws r -> Q (.ref p) H2 := ⟨H, Gx.rfl, q⟩
end
end Pu

set_option Elab.async false
set_option linter.all false
set_option maxRecDepth 100000
namespace Pu
open Pu.Rp (rp)
open PySem PySem.Spec PyProof.Rows L2
theorem at_obj {G H : Hp} {p : Addr} {o : HO} {L1 L2' : Led} (a : At G H (L1 ++ (p, o) :: L2')) : exists o', o' = o ∧ At G H (L1 ++ (p, o') :: L2') := ⟨o, rfl, a⟩
end Pu

set_option Elab.async false
set_option linter.all false
set_option maxRecDepth 100000
namespace Pu
open Pu.Rp (rp)
open PySem PySem.Spec PyProof.Rows L2
section
variable {K : Fg} {A B C D : Type} [Rp A] [Rp B] [Rp C] [Rp D]
variable {σ : L2.St} {G G' H H' : Hp} {L L1 L2' : Led} {M : List Addr} {te ta tb tc : TE} {tt tu : TT} {X : Ends} {t1 t2 u : TS} {i : Nat}
def whileO {S : Type} (c : S -> Option Bool) (f : S -> Option S) : Nat -> S -> Option S
  | 0, _ => none
  | n + 1, s => (c s).bind fun b => if b = true then (f s).bind fun s' => whileO c f n s' else some s
theorem whileO_M {S : Type} {c : S -> Option Bool} {f : S -> Option S} : forall {n : Nat} {s r : S}, whileO c f n s = some r -> whileM (R := Empty) c (fun s => (f s).map Sum.inl) n s = some (.inl r)
  | 0, s, r, h => by cases h
  | n + 1, s, r, h => by
    unfold whileO at h
    unfold whileM
    cases hc : c s with
    | none => rw [hc] at h; cases h
    | some b =>
      rw [hc] at h
      cases b with
      | false => exact congrArg some (congrArg Sum.inl (Option.some.inj (show some s = some r from h)))
      | true =>
        have h' : ((f s).bind fun s' => whileO c f n s') = some r := h
        cases hf : f s with
        | none => rw [hf] at h'; cases h'
        | some s' =>
          rw [hf] at h'
          exact whileO_M (n := n) h'
theorem st_whileO {S : Type} {c : S -> Option Bool} {f : S -> Option S} {n : Nat} {s0 s1 : S} (hl : whileO c f n s0 = some s1) (In : S -> L2.St -> Hp -> Prop) (h0 : In s0 σ H)
    (hc : forall s σ' H', In s σ' H' -> EvT tt σ' H' (c s))
    (hs : forall s s' σ' H' H'', c s = some true -> f s = some s' -> In s σ' H' -> Gx H' H'' -> t1 { X with nx := In s', ct := In s', bk := u X } σ' H'')
    (hd : forall σ' H' H'', In s1 σ' H' -> Gx H' H'' -> u X σ' H'') : tSeq (tWhile tt t1) u X σ H := by
  have hM := whileO_M hl
  refine ⟨fun m σ H => exists s, In s σ H ∧ whileO c f m s = some s1, ⟨n, s0, h0, hl⟩, ?_⟩
  rintro m σ' Hc ⟨s, hin, hm⟩
  cases m with
  | zero => cases hm
  | succ m =>
    unfold whileO at hm
    cases hb : c s with
    | none => rw [hb] at hm; cases hm
    | some b =>
      rw [hb] at hm
      refine hc s σ' Hc hin b hb Hc Gx.rfl _ fun H3 g3 => ?_
      cases b with
      | false =>
        have e : s = s1 := Option.some.inj (show some s = some s1 from hm)
        subst e
        exact ite_ff (hd σ' Hc H3 hin g3)
      | true =>
        refine ite_tt ?_
        cases hf : f s with
        | none => rw [hf] at hm; cases hm
        | some s' =>
          have hm' : whileO c f m s' = some s1 := by rw [hf] at hm; exact hm
          exact ⟨In s', fun σ3 H4 hN => ⟨m, by omega, s', hN, hm'⟩, hs s s' σ' Hc H3 hb hf hin g3⟩
/-! a list of lists that are changed where they stand -/
def lmE : List Addr -> List (List V) -> Led
  | p :: ps, vs :: vss => (p, HO.lst vs) :: lmE ps vss
  | _, _ => []
def lmL (pp : Addr) (ps : List Addr) (vss : List (List V)) : Led := (pp, HO.lst (ps.map V.ref)) :: lmE ps vss
def Al2 (K : Fg) (G : Hp) : List Addr -> List (List V) -> List (List A) -> Prop
  | [], [], [] => True
  | _ :: ps, vs :: vss, xs :: xss => Al (rp K G) vs xs ∧ Al2 K G ps vss xss
  | _, _, _ => False
theorem Al2.mono (g : Gx G G') : forall {ps : List Addr} {vss : List (List V)} {xss : List (List A)}, Al2 K G ps vss xss -> Al2 K G' ps vss xss
  | [], [], [], _ => trivial
  | _ :: ps, vs :: vss, xs :: xss, h => ⟨h.1.mono fun _ _ => Rp.mono g, Al2.mono (ps := ps) g h.2⟩
  | [], _ :: _, _, h => h.elim
  | [], [], _ :: _, h => h.elim
  | _ :: _, [], _, h => h.elim
  | _ :: _, _ :: _, [], h => h.elim
theorem lm_al (hp : forall e, e ∈ L -> H e.1 = some e.2) (g : Gx G H) : forall {ps : List Addr} {vss : List (List V)} {xss : List (List A)}, (forall e, e ∈ lmE ps vss -> e ∈ L) -> Al2 K G ps vss xss -> Al (rp K H) (ps.map V.ref) xss
  | [], [], [], _, _ => trivial
  | p :: ps, vs :: vss, xs :: xss, hm, h => ⟨⟨p, vs, rfl, hp _ (hm _ (List.Mem.head _)), h.1.mono fun _ _ => Rp.mono g⟩, lm_al (ps := ps) hp g (fun e he => hm e (List.Mem.tail _ he)) h.2⟩
  | [], _ :: _, _, _, h => h.elim
  | [], [], _ :: _, _, h => h.elim
  | _ :: _, [], _, _, h => h.elim
  | _ :: _, _ :: _, [], _, h => h.elim
theorem lm_rp {pp : Addr} {ps : List Addr} {vss : List (List V)} {xss : List (List A)} (a : At G H L) (hp : forall e, e ∈ lmL pp ps vss -> e ∈ L) (r : Al2 K G ps vss xss) : rp K H (.ref pp) xss :=
  ⟨pp, ps.map V.ref, rfl, (a.led _ (hp _ (List.Mem.head _))).1, lm_al (fun e he => (a.led e he).1) a.ex (fun e he => hp e (List.Mem.tail _ he)) r⟩
theorem lm_split : forall {j : Nat} {ps : List Addr} {vss : List (List V)} {xss : List (List A)} {xs : List A}, Al2 K G ps vss xss -> xss[j]? = some xs -> exists p vs L1 L2, ps[j]? = some p ∧ Al (rp K G) vs xs ∧ lmE ps vss = L1 ++ (p, HO.lst vs) :: L2 ∧ forall vs', lmE ps (vss.set j vs') = L1 ++ (p, HO.lst vs') :: L2
  | j, [], [], [], xs, _, h => by simp at h
  | 0, p :: ps, vs :: vss, xs :: xss, _, h, e => by
    cases e
    exact ⟨p, vs, [], lmE ps vss, rfl, h.1, rfl, fun _ => rfl⟩
  | j + 1, p :: ps, vs :: vss, xs :: xss, _, h, e => by
    obtain ⟨q, ws, L1, L2, a, b, c, d⟩ := lm_split (j := j) h.2 e
    refine ⟨q, ws, (p, HO.lst vs) :: L1, L2, a, b, by unfold lmE; rw [c]; rfl, fun vs' => ?_⟩
    rw [List.set_cons_succ]
    unfold lmE
    rw [d]
    rfl
  | _, [], _ :: _, _, _, h, _ => h.elim
  | _, [], [], _ :: _, _, h, _ => h.elim
  | _, _ :: _, [], _, _, h, _ => h.elim
  | _, _ :: _, _ :: _, [], _, h, _ => h.elim
theorem Al2.set {vs' : List V} {xs' : List A} (r : Al (rp K G) vs' xs') : forall {j : Nat} {ps : List Addr} {vss : List (List V)} {xss : List (List A)}, Al2 K G ps vss xss -> Al2 K G ps (vss.set j vs') (xss.set j xs')
  | _, [], [], [], _ => trivial
  | 0, p :: ps, vs :: vss, xs :: xss, h => ⟨r, h.2⟩
  | j + 1, p :: ps, vs :: vss, xs :: xss, h => ⟨h.1, Al2.set (j := j) r h.2⟩
  | _, [], _ :: _, _, h => h.elim
  | _, [], [], _ :: _, h => h.elim
  | _, _ :: _, [], _, h => h.elim
  | _, _ :: _, _ :: _, [], h => h.elim
theorem Al2.len : forall {ps : List Addr} {vss : List (List V)} {xss : List (List A)}, Al2 K G ps vss xss -> ps.length = xss.length
  | [], [], [], _ => rfl
  | _ :: ps, vs :: vss, xs :: xss, h => congrArg Nat.succ (Al2.len h.2)
  | [], _ :: _, _, h => h.elim
  | [], [], _ :: _, h => h.elim
  | _ :: _, [], _, h => h.elim
  | _ :: _, _ :: _, [], h => h.elim
/-- x[i].append(e) -/
def fAppAt (xss : List (List A)) (n : Int) (y : A) : Option (List (List A)) := (ixN xss.length n).bind fun j => (xss[j]?).bind fun xs => if xs.length < 100000 then some (xss.set j (xs ++ [y])) else none
theorem st_lm2 (a : At G H []) (k : forall pp ps vss H2, Gx H H2 -> (forall p, p ∈ ps -> H p = none) -> Al2 K G ps vss ([[], []] : List (List A)) -> At G H2 (lmL pp ps vss) -> u X (σ.set i (some (.ref pp))) H2) :
    tSeq (tAsg (tLst (tCons (tLst tNil) (tCons (tLst tNil) tNil))) (gName i)) u X σ H :=
  ⟨Nat.zero_le _, fun p1 h1 => ⟨Nat.zero_le _, fun p2 h2 => ⟨by show 2 ≤ sizeLine; exact Evl.sz_of (by decide), fun pp h3 => by
    have a1 := a.add h1 (o := HO.lst []) trivial
    have a2 := a1.add h2 (o := HO.lst []) trivial
    have a3 := a2.add h3 (o := HO.lst [V.ref p1, V.ref p2]) trivial
    have e1 : Gx H (upd H p1 (HO.lst [])) := Gx.new h1
    have e2 := Gx.new (o := HO.lst []) h2
    have e3 := Gx.new (o := HO.lst [V.ref p1, V.ref p2]) h3
    refine k pp [p1, p2] [[], []] _ ((e1.trans e2).trans e3) (fun p hp => ?_) ⟨trivial, trivial, trivial⟩ ⟨a3.ex, ?_, fun q hq => a3.led q ?_⟩
    · rcases List.mem_cons.mp hp with rfl | hp
      · exact h1
      · rw [List.mem_singleton.mp hp]
        exact e1.back h2
    · have := a3.nd
      simp only [lmL, lmE, List.map_cons, List.map_nil, List.nodup_cons, List.mem_cons, List.not_mem_nil, or_false] at this ⊢
      refine ⟨fun z => this.1 (z.elim .inr .inl), fun z => this.2.1 z.symm, ?_⟩
      exact ⟨fun z => z, List.nodup_nil⟩
    · simp only [lmL, lmE, List.mem_cons, List.not_mem_nil, or_false] at hq ⊢
      rcases hq with h | h | h
      · exact .inl h
      · exact .inr (.inr h)
      · exact .inr (.inl h)⟩⟩⟩
theorem lm_m : forall {ps : List Addr} {vss : List (List V)} {xss : List (List A)}, Al2 K G ps vss xss -> (lmE ps vss).map (·.1) = ps
  | [], [], [], _ => rfl
  | _ :: ps, vs :: vss, xs :: xss, h => congrArg _ (lm_m h.2)
  | [], _ :: _, _, h => h.elim
  | [], [], _ :: _, h => h.elim
  | _ :: _, [], _, h => h.elim
  | _ :: _, _ :: _, [], h => h.elim
theorem lm_M {pp : Addr} {ps : List Addr} {vss : List (List V)} {xss : List (List A)} {M1 : List Addr} (r : Al2 K G ps vss xss) (h : forall p, p ∈ M1 -> p ∈ L1.map (·.1)) : forall p, p ∈ M1 ++ ps -> p ∈ (L1 ++ lmL pp ps vss).map (·.1) := fun p hp => by
  rw [List.map_append]
  rcases List.mem_append.mp hp with hp | hp
  · exact List.mem_append_left _ (h p hp)
  · refine List.mem_append_right _ (List.mem_cons_of_mem _ ?_)
    rw [lm_m r]
    exact hp
theorem st_appAt {pp : Addr} {ps : List Addr} {vss : List (List V)} {xss zss : List (List A)} {iv : Nat} {m : Option A} {x : A} {mi : Option Int} {n : Int} (hs : σ[iv]? = some (some (.ref pp))) (hi : EvB K tb σ H mi) (hn : mi = some n)
    (h : EvO K te σ G H m) (hm : m = some x) (a : At G H (L1 ++ lmL pp ps vss)) (r : Al2 K G ps vss xss) (hz : fAppAt xss n x = some zss)
    (k : forall G2 H2 H3 p o vss', Gx G G2 -> Gx H H2 -> p ∈ ps -> H3 = upd H2 p o -> At G2 H2 (L1 ++ lmL pp ps vss) -> At G2 H3 (L1 ++ lmL pp ps vss') -> Al2 K G2 ps vss' zss -> u X σ H3) :
    tSeq (tDrop (tBM K "list" rAppend (tOp (rIxL K) (tVar iv) tb) (tCons te tNil))) u X σ H := by
  unfold fAppAt at hz
  obtain ⟨j, hj, hz⟩ := bnd hz
  obtain ⟨xs, hx, hz⟩ := bnd hz
  by_cases hl : xs.length < 100000
  · rw [if_pos hl] at hz
    cases hz
    obtain ⟨p, vs, M1, M2, hp, ra, e1, e2⟩ := lm_split r hx
    have hpp := (a.led (pp, .lst (ps.map V.ref)) (List.mem_append_right _ (List.Mem.head _))).1
    have hmem : (p, HO.lst vs) ∈ L1 ++ lmL pp ps vss := List.mem_append_right _ (List.mem_cons_of_mem _ (by rw [e1]; simp))
    refine ⟨_, hs, hi n hn H Gx.rfl _ fun w H1 g1 rw' => ⟨pp, ps.map V.ref, n, .ref p, rfl, rw', SqL.of (g1 _ _ hpp), ?_, ?_⟩⟩
    · unfold atI
      rw [List.length_map, r.len, hj]
      show (ps.map V.ref)[j]? = _
      rw [List.getElem?_map, hp]
      rfl
    · have a1 := a.grow g1
      have hq := (a1.led _ hmem).1
      refine ⟨Or.inl ⟨rfl, vs, SqL.of hq⟩, h x hm G H1 _ Gx.rfl g1 a1 _ fun v G2 H2 g2 g3 a2 rv => ⟨p, vs, v, rfl, rfl, g3 _ _ hq, Evl.sz_lt (by rw [ra.len]; exact hl), ?_⟩⟩
      have a3 : At G2 H2 ((L1 ++ (pp, HO.lst (ps.map V.ref)) :: M1) ++ (p, HO.lst vs) :: M2) := by
        have := a2
        unfold lmL at this
        rw [e1] at this
        simpa using this
      have a4 := a3.set (o' := HO.lst (vs ++ [v])) trivial
      refine k G2 H2 _ p _ (vss.set j (vs ++ [v])) g2 (g1.trans g3) (List.mem_of_getElem? hp) rfl a2 ?_ (Al2.set ((ra.mono fun _ _ => Rp.mono g2).app (Al.one rv)) (r.mono g2))
      unfold lmL
      rw [e2]
      simpa using a4
  · rw [if_neg hl] at hz
    cases hz
theorem lmE_nil {e : Addr × HO} : forall {ps : List Addr}, e ∈ lmE ps (ps.map fun _ => []) -> e.1 ∈ ps ∧ e.2 = HO.lst []
  | [], h => nomatch h
  | p :: ps, h => by
    rcases List.mem_cons.mp h with rfl | h
    · exact ⟨List.mem_cons_self, rfl⟩
    · have := lmE_nil (ps := ps) h
      exact ⟨List.mem_cons_of_mem _ this.1, this.2⟩
theorem lmE_map : forall {ps : List Addr}, (lmE ps (ps.map fun _ => [])).map (·.1) = ps
  | [] => rfl
  | p :: ps => congrArg _ (lmE_map (ps := ps))
theorem al2_nil : forall {ps : List Addr}, Al2 K G ps (ps.map fun _ => []) (ps.map fun _ => ([] : List A))
  | [] => trivial
  | _ :: ps => ⟨trivial, al2_nil (ps := ps)⟩
/-- x = [[] for k in ..] -/
theorem st_lmc {I : Type} [Rp I] {wi : TI} {g : TG} {b : Bd I} {vs : List Nat} {mx : Option (List I)} {xs : List I} (hi : EvI K wi σ [] H mx) (hx : mx = some xs) (hz : xs.length ≤ 100000) (hg : TgOk K g b) (hb : BdIn b vs)
    (ht : forall x σ2 H', Gx H H' -> b x (wipe σ vs) H' σ2 -> EvT tt σ2 H' (some true)) (a : At G H [])
    (k : forall pp ps vss H2, Gx H H2 -> (forall p, p ∈ ps -> H p = none) -> Al2 K G ps vss (xs.map fun _ => ([] : List A)) -> At G H2 (lmL pp ps vss) -> u X (σ.set i (some (.ref pp))) H2) :
    tSeq (tAsg (tLc wi g tt (tLst tNil) vs) (gName i)) u X σ H := by
  refine hi xs hx H Gx.rfl _ fun J H2 e2 wk => ?_
  rw [mns_nil] at wk
  intro D hD
  obtain ⟨go, stop, yld⟩ := wk
  refine ⟨fun i m Hc => m = xs.length - i ∧ i ≤ xs.length ∧ Gx H2 Hc ∧ exists ps : List Addr, Hc D = some (.lst (ps.map V.ref)) ∧ ps.length = i ∧ (D :: ps).Nodup ∧ forall p, p ∈ ps -> H2 p = none ∧ Hc p = some (.lst []),
    ⟨xs.length, by simp, Nat.zero_le _, Gx.new hD, [], upd_same, rfl, by simp, fun p hp => nomatch hp⟩, ?_⟩
  rintro j m Hc ⟨rfl, hle, gc, ps, hDc, hlen, nd, hps⟩
  by_cases hlt : j < xs.length
  · refine .inr ⟨go j Hc hlt gc, fun Hn => j + 1 ≤ xs.length ∧ Gx H2 Hn ∧ exists ps : List Addr, Hn D = some (.lst (ps.map V.ref)) ∧ ps.length = j + 1 ∧ (D :: ps).Nodup ∧ forall p, p ∈ ps -> H2 p = none ∧ Hn p = some (.lst []),
      fun Hn hn => ⟨xs.length - (j + 1), by omega, rfl, hn.1, hn.2⟩, fun v Hy hy => ?_⟩
    have hx' := List.getElem?_eq_getElem hlt
    obtain ⟨gy, ry⟩ := yld j Hc v Hy _ gc hx' hy
    have gH : Gx H Hy := e2.trans (gc.trans gy)
    refine hg _ v (wipe σ vs) Hy _ ry fun σ2 hσ => ⟨(hb _ _ _ _ hσ).trans (wipe_wipe σ vs), ?_⟩
    refine ht _ σ2 Hy gH hσ true rfl Hy Gx.rfl _ fun H3 g3 => ite_tt ?_
    refine ⟨Nat.zero_le _, fun p' hp' => ?_⟩
    have gD := gy.trans g3
    have h3 : H3 D = some (.lst (ps.map V.ref)) := gD _ _ hDc
    have np : p' ≠ D := fun z => by rw [z, h3] at hp'; cases hp'
    have nps : p' ∉ ps := fun z => by rw [gD _ _ (hps p' z).2] at hp'; cases hp'
    have h4 : upd H3 p' (HO.lst []) D = some (.lst (ps.map V.ref)) := by rw [upd_ne (fun z => np z.symm)]; exact h3
    refine ⟨ps.map V.ref, h4, by rw [List.length_map]; exact Evl.sz_lt (by omega), hlt, ?_, ps ++ [p'], ?_, ?_, ?_, fun p hp => ?_⟩
    · exact ((gc.trans gD).trans (Gx.new hp')).mut hD
    · rw [upd_same, List.map_append]; rfl
    · rw [List.length_append, hlen]; rfl
    · obtain ⟨n1, n2⟩ := List.nodup_cons.mp nd
      refine List.nodup_cons.mpr ⟨fun z => ?_, List.nodup_append.mpr ⟨n2, by simp, fun q hq r hr => ?_⟩⟩
      · rcases List.mem_append.mp z with z | z
        · exact n1 z
        · exact np (List.mem_singleton.mp z).symm
      · rw [List.mem_singleton.mp hr]
        intro z
        exact nps (z ▸ hq)
    · have nD : p ≠ D := by
        rcases List.mem_append.mp hp with z | z
        · intro y
          exact (List.nodup_cons.mp nd).1 (y ▸ z)
        · rw [List.mem_singleton.mp z]; exact np
      rcases List.mem_append.mp hp with z | z
      · have q : p ≠ p' := fun y => nps (y ▸ z)
        exact ⟨(hps p z).1, by rw [upd_ne nD, upd_ne q]; exact gD _ _ (hps p z).2⟩
      · rw [List.mem_singleton.mp z] at nD ⊢
        exact ⟨(gc.trans gD).back hp', by rw [upd_ne nD, upd_same]⟩
  · have hi : j = xs.length := by omega
    subst hi
    refine .inl ⟨stop Hc gc, ?_⟩
    have e0 := e2.trans gc
    have hm : (xs.map fun _ => ([] : List A)) = ps.map fun _ => [] := by
      apply List.ext_getElem
      · simp [hlen]
      · intro n h1 h2; simp
    refine k D ps (ps.map fun _ => []) Hc e0 (fun p hp => e2.back (hps p hp).1) (by rw [hm]; exact al2_nil) ⟨a.ex.trans e0, ?_, fun e he => ?_⟩
    · show (D :: (lmE ps _).map (·.1)).Nodup
      rw [lmE_map]; exact nd
    · rcases List.mem_cons.mp he with rfl | he
      · exact ⟨hDc, a.ex.back (e2.back hD), trivial⟩
      · obtain ⟨x1, x2⟩ := lmE_nil he
        obtain ⟨ea, eo⟩ := e
        simp only at x1 x2
        subst x2
        exact ⟨(hps _ x1).2, a.ex.back (e2.back (hps _ x1).1), trivial⟩
def oLim {I : Type} (m : Option (List I)) : Option (List I) := m.bind (lim 100000)
theorem oLims {I : Type} {m : Option (List I)} {xs : List I} (h : oLim m = some xs) : m = some xs ∧ xs.length ≤ 100000 := by
  unfold oLim at h
  obtain ⟨ys, e, h⟩ := bnd h
  unfold lim at h
  split at h
  · cases h; exact ⟨e, by assumption⟩
  · cases h
end
section
variable {X : Cx} {K : Fg}
theorem ixT_K (h : X.K = K) : IxR X (rIxT K) := h ▸ ix_tup
theorem ixL_K (h : X.K = K) : IxR X (rIxL K) := h ▸ ix_list
theorem slL_K (h : X.K = K) : SlR X (rSlL K) := h ▸ sl_list
theorem slA_K (h : X.K = K) : SlR X (rSlA K) := h ▸ sl_tupA
theorem opEq_K (h : X.K = K) (hu : X.A.units + 64 < cLine) : OpR X (compareOp .Eq) (rEqD K) := h ▸ op_eqD hu
theorem opNe_K (h : X.K = K) (hu : X.A.units + 64 < cLine) : OpR X (compareOp .NotEq) (rNeD K) := h ▸ op_neD hu
theorem len_K (h : X.K = K) : CallR X (.builtin "len") (fun xs H Q => ∃ p ys, xs = [V.ref p] ∧ (SqL K H p ys ∨ SqT K H p ys) ∧ Q (V.int ys.length) H) := h ▸ call_len_seq
theorem isi_K (h : X.K = K) : CallR X (.builtin "isinstance") (rIsi K) := h ▸ call_isi
theorem lof_K (h : X.K = K) : CallR X (.type "list") (fun xs H Q => ∃ p ys, xs = [V.ref p] ∧ (SqL K H p ys ∨ SqT K H p ys) ∧ ∀ l, H l = none → Q (V.ref l) (upd H l (.lst ys))) := h ▸ call_list_of
theorem tof_K (h : X.K = K) : CallR X (.type "tuple") (fun xs H Q => ∃ p ys, xs = [V.ref p] ∧ ((SqL K H p ys ∧ ∀ l, H l = none → Q (V.ref l) (upd H l (.tup ys))) ∨ (SqT K H p ys ∧ Q (V.ref p) H))) := h ▸ call_tuple_of
end
end Pu

set_option Elab.async false
set_option linter.all false
set_option maxRecDepth 100000
namespace Pu
open Pu.Rp (rp)
open PySem PySem.Spec PyProof.Rows L2
/-! a number or None -/
instance {A : Type} [Rp A] : Rp (Option A) where
  rp K H v x := match x with
    | none => v = .non
    | some a => rp K H v a
  mono {K H H' v x} e h := by
    cases x with
    | none => exact h
    | some a => exact Rp.mono e h
instance {A : Type} [Rp A] [Im A] : Im (Option A) := ⟨fun {K H H' v x} e h => by
  cases x with
  | none => exact h
  | some a => exact Im.im (A := A) e h⟩
instance : Eqd (Option Int) where
  enc x := match x with
    | none => .none
    | some i => .int i
  dp {K H v x} h := by
    cases x with
    | none => cases (show v = V.non from h); exact .non
    | some i => cases (show v = V.int i from h); exact .int _
  lay x := by cases x <;> simp [PyData.canLay0]
  dep := 0
  deep x := by cases x <;> simp [PyData.depth]
  eqv x y := by
    cases x with
    | none =>
      cases y with
      | none => simp [PyData.eqv]
      | some j => simp [PyData.eqv]
    | some i =>
      cases y with
      | none => simp [PyData.eqv]
      | some j =>
        rw [PyData.eqv]
        by_cases h : i = j <;> simp [h]
section
variable {K : Fg} {A B C D : Type} [Rp A] [Rp B] [Rp C] [Rp D]
variable {σ : L2.St} {G G' H H' : Hp} {L L1 L2' : Led} {M : List Addr} {te ta tb tc : TE} {tt tu : TT} {X : Ends} {t1 t2 u : TS} {i : Nat}
theorem x_some {m : Option A} (h : EvB K te σ H m) : EvB (A := Option A) K te σ H (m.map some) := fun x hx H1 e Q q => by
  obtain ⟨a, ha, rfl⟩ := Option.map_eq_some_iff.mp hx
  exact h a ha H1 e Q q
theorem x_none : EvB (A := Option A) K (tC .non) σ H (some none) := fun x hx H1 e Q q => by
  cases hx
  exact q _ H1 Gx.rfl rfl
/-! min(xs, default=..) of a list of ints -/
def rMinD (K : Fg) : List V -> List V -> Hp -> VK -> Prop := fun vs zs H Q => exists (a : Addr) (ns : List Int) (d : V), vs = [V.ref a] ∧ zs = [d] ∧ SqL K H a (ns.map V.int) ∧ Q (match ns with | [] => d | n :: r => .int (r.foldl min n)) H
theorem alikeAll_int (ns : List Int) : PySem.W.AlikeAll (ns.map PyData.int) :=
  ⟨fun x hx y hy => by
    obtain ⟨a, _, rfl⟩ := List.mem_map.mp hx
    obtain ⟨b, _, rfl⟩ := List.mem_map.mp hy
    rfl, fun x hx => by
    obtain ⟨a, _, rfl⟩ := List.mem_map.mp hx
    intro h; cases h⟩
theorem depth_ints : forall ns : List Int, PyData.depthAll (ns.map PyData.int) = 0
  | [] => by simp [PyData.depthAll]
  | n :: r => by
    rw [List.map_cons, PyData.depthAll, depth_ints r]
    simp [PyData.depth]
end
theorem cr_minD {X : Cx} {K : Fg} (hk : X.K = K) (hc : X.calm = true) (hu : X.A.units + 64 < cLine) : CallRK X (.builtin "min") [Str.ofString "default"] (rMinD K) := by
  subst hk
  intro pins s σ H vs zs us ws Q I r rz h
  obtain ⟨a, ns, d, rfl, rfl, hs, q⟩ := h
  obtain ⟨its, rv, hl, _⟩ := I.list hs
  obtain rfl := Vals.ref1 r
  obtain ⟨w1, rfl, e1⟩ := vals1 rz
  have ia := rv.ints
  refine PySem.W.min_list_default (I.ok.hd hc) hl.isList (IntsAre.reads _ ia) (alikeAll_int ns) (by rw [depth_ints]; omega) (fun h0 h' tk hk => ?_) (fun y ys i v h' tk bs he hv hr hk => ?_)
  · cases ns with
    | nil => exact ⟨d, H, I.kept hk, e1, q⟩
    | cons n r => cases h0
  · cases ns with
    | nil => cases he
    | cons n r =>
      rw [List.map_cons] at he
      injection he with h1 h2
      subst h1 h2
      rw [PySem.W.minD_ints] at hr
      obtain ⟨t, rfl, _⟩ := reads_int_inv hr
      exact ⟨.int _, H, I.kept hk, ⟨_, rfl⟩, q⟩
section
variable {K : Fg} {A B C D : Type} [Rp A] [Rp B] [Rp C] [Rp D]
variable {σ : L2.St} {G G' H H' : Hp} {L L1 L2' : Led} {M : List Addr} {te ta tb tc : TE} {tt tu : TT} {X : Ends} {t1 t2 u : TS} {i : Nat}
def fMinN (x : List Int) : Option (Option Int) := some (match x with | [] => none | n :: r => some (r.foldl min n))
theorem x_minN {ma : Option (List Int)} (ha : EvB K ta σ H ma) : EvB K (tCKw (rMinD K) (tCons ta tNil) (tCons (tC .non) tNil)) σ H (o1 fMinN ma) := fun x hx H1 e Q q => by
  obtain ⟨ns, e1, e2⟩ := o1s hx
  unfold fMinN at e2
  cases e2
  refine ha ns e1 H1 e _ fun v H2 g r => ?_
  obtain ⟨p, vs, rfl, h2, h3⟩ := r
  rw [al_int h3] at h2
  refine ⟨p, ns, .non, rfl, rfl, SqL.of h2, ?_⟩
  cases ns with
  | nil => exact q _ H2 g rfl
  | cons n r => exact q _ H2 g rfl
/-! new lists of new lists -/
def Nl (K : Fg) (H1 H2 : Hp) (p : Addr) : List V -> List (List A) -> Prop := Al fun v xs => exists (p' : Addr) (ws : List V), v = .ref p' ∧ H1 p' = none ∧ p' ≠ p ∧ H2 p' = some (.lst ws) ∧ Al (rp K H2) ws xs
def EvQ (K : Fg) (te : TE) (σ : L2.St) (H : Hp) (m : Option (List (List A))) : Prop :=
  forall xs, m = some xs -> forall H1, Gx H H1 -> forall Q : VK, (forall p vs H2, H1 p = none -> Gx H1 H2 -> H2 p = some (.lst vs) -> Nl K H1 H2 p vs xs -> Q (.ref p) H2) -> te σ H1 Q
theorem EvQ.b {m : Option (List (List A))} (h : EvQ K te σ H m) : EvB K te σ H m := fun x hx H1 e Q q => h x hx H1 e Q fun p vs H2 hn g h2 r => q (.ref p) H2 g ⟨p, vs, rfl, h2, r.mono fun v xs z => by
  obtain ⟨p', ws, a, _, _, b, c⟩ := z
  exact ⟨p', ws, a, b, c⟩⟩
theorem st_newQ [Im A] {m : Option (List (List A))} {x : List (List A)} (h : EvQ K te σ H m) (hm : m = some x) (a : At G H L) (k : forall p vs G2 H2, H p = none -> Gx G G2 -> Gx H H2 -> At G2 H2 ((p, .lst vs) :: L) -> Al (rp K G2) vs x -> u X (σ.set i (some (.ref p))) H2) : tSeq (tAsg te (gName i)) u X σ H :=
  h x hm H Gx.rfl _ fun p vs H2 hp g h2 r => by
    have a2 : At G H2 ((p, .lst vs) :: L) := by
      refine ⟨a.ex.trans g, List.nodup_cons.mpr ⟨a.fresh hp, a.nd⟩, fun q hq => ?_⟩
      rcases List.mem_cons.mp hq with rfl | hq
      · exact ⟨h2, a.ex.back hp, trivial⟩
      · exact (a.grow g).led q hq
    refine k p vs (hid H2 ((p, .lst vs) :: L)) H2 hp a2.gh g a2.hid (r.mono fun v xs z => ?_)
    obtain ⟨p', ws, e1, e2, e3, e4, e5⟩ := z
    refine ⟨p', ws, e1, ?_, e5.mono fun _ _ => Im.im a2.tx⟩
    rw [hid_out]
    · exact e4
    · intro z
      rcases List.mem_cons.mp z with z | z
      · exact e3 z
      · exact a.fresh e2 z
theorem x_lcQ {I : Type} [Rp I] [Im A] {wi : TI} {g : TG} {b : Bd I} {vs : List Nat} {mx : Option (List I)} {c : I -> Option Bool} {f : I -> Option (List A)} {tt : TT} (hi : EvI K wi σ [] H mx) (hg : TgOk K g b) (hb : BdIn b vs)
    (ht : forall x σ2 H', Gx H H' -> b x (wipe σ vs) H' σ2 -> EvT tt σ2 H' (c x)) (he : forall x σ2 H', Gx H H' -> b x (wipe σ vs) H' σ2 -> EvN K te σ2 H' (f x)) : EvQ K (tLc wi g tt te vs) σ H (oComp c f mx) := fun r hr H1 e1 Q q => by
  cases mx with
  | none => cases hr
  | some xs =>
    have hr' : (lim 100000 xs).bind (comp c f) = some r := hr
    unfold lim at hr'
    by_cases hz : xs.length ≤ 100000
    · rw [if_pos hz] at hr'
      have hr2 : comp c f xs = some r := hr'
      refine hi xs rfl H1 e1 _ fun J H2 e2 wk => ?_
      rw [mns_nil] at wk
      intro D hD
      obtain ⟨go, stop, yld⟩ := wk
      refine ⟨fun i m Hc => m = xs.length - i ∧ i ≤ xs.length ∧ Gx H2 Hc ∧ exists vs' ys r', Hc D = some (.lst vs') ∧ Nl K H1 Hc D vs' ys ∧ ys.length ≤ i ∧ comp c f (xs.drop i) = some r' ∧ r = ys ++ r',
        ⟨xs.length, by simp, Nat.zero_le _, Gx.new hD, [], [], r, upd_same, trivial, Nat.le_refl _, hr2, rfl⟩, ?_⟩
      have mv : forall (Ha Hb : Hp) (vs' : List V) (ys : List (List A)), Gx Ha Hb -> Nl K H1 Ha D vs' ys -> Nl K H1 Hb D vs' ys := fun Ha Hb vs' ys ga n => n.mono fun v xs z => by
        obtain ⟨p', ws, a1, a2, a3, a4, a5⟩ := z
        exact ⟨p', ws, a1, a2, a3, ga _ _ a4, a5.mono fun _ _ => Rp.mono ga⟩
      rintro i m Hc ⟨rfl, hle, gc, vs', ys, r', hDc, ral, hlen, hcomp, rfl⟩
      by_cases hlt : i < xs.length
      · refine .inr ⟨go i Hc hlt gc, fun Hn => i + 1 ≤ xs.length ∧ Gx H2 Hn ∧ exists vs' ys' r'', Hn D = some (.lst vs') ∧ Nl K H1 Hn D vs' ys' ∧ ys'.length ≤ i + 1 ∧ comp c f (xs.drop (i + 1)) = some r'' ∧ ys ++ r' = ys' ++ r'',
          fun Hn hn => ⟨xs.length - (i + 1), by omega, rfl, hn.1, hn.2⟩, fun v Hy hy => ?_⟩
        have hx := List.getElem?_eq_getElem hlt
        obtain ⟨gy, ry⟩ := yld i Hc v Hy _ gc hx hy
        have gH : Gx H Hy := (e1.trans e2).trans (gc.trans gy)
        refine hg _ v (wipe σ vs) Hy _ ry fun σ2 hσ => ⟨(hb _ _ _ _ hσ).trans (wipe_wipe σ vs), ?_⟩
        rw [List.drop_eq_getElem_cons hlt] at hcomp
        rcases comp_cons hcomp with ⟨hc, y, r2, hf, h2, rfl⟩ | ⟨hc, h2⟩
        · refine ht _ σ2 Hy gH hσ true hc Hy Gx.rfl _ fun H3 g3 => ite_tt ?_
          refine he _ σ2 Hy gH hσ y hf H3 g3 _ fun p' ws H4 hp' g4 h4p r4 => ?_
          have gD := gy.trans (g3.trans g4)
          have h4 : H4 D = some (.lst vs') := gD _ _ hDc
          have h3 : H3 D = some (.lst vs') := (gy.trans g3) _ _ hDc
          have np : p' ≠ D := fun z => by rw [z, h3] at hp'; cases hp'
          have tx : Tx H4 (upd H4 D (.lst (vs' ++ [.ref p']))) := fun a xs q => by
            have na : a ≠ D := fun z => by rw [z, h4] at q; cases q
            rw [upd_ne na]; exact q
          have r1 := mv Hc H4 vs' ys gD ral
          have r5 : Nl K H1 (upd H4 D (.lst (vs' ++ [.ref p']))) D vs' ys := r1.mono fun v xs z => by
            obtain ⟨p2, w2, a1, a2, a3, a4, a5⟩ := z
            exact ⟨p2, w2, a1, a2, a3, by rw [upd_ne a3]; exact a4, a5.mono fun _ _ => Im.im tx⟩
          refine ⟨vs', h4, ?_, hlt, (gc.trans gD).mut hD, vs' ++ [.ref p'], ys ++ [y], r2, upd_same, Al.app r5 (Al.one ⟨p', ws, rfl, (e2.trans (gc.trans (gy.trans g3))).back hp', np, by rw [upd_ne np]; exact h4p, r4.mono fun _ _ => Im.im tx⟩), ?_, h2, by simp⟩
          · rw [ral.len]; exact Evl.sz_lt (by omega)
          · rw [List.length_append]; simp only [List.length_cons, List.length_nil]; omega
        · refine ht _ σ2 Hy gH hσ false hc Hy Gx.rfl _ fun H3 g3 => ite_ff ?_
          exact ⟨hlt, (gc.trans gy).trans g3, vs', ys, r', (gy.trans g3) _ _ hDc, mv Hc H3 vs' ys (gy.trans g3) ral, by omega, h2, rfl⟩
      · have hi : i = xs.length := by omega
        subst hi
        rw [List.drop_length] at hcomp
        cases hcomp
        rw [List.append_nil] at *
        exact .inl ⟨stop Hc gc, q D vs' Hc (e2.back hD) (e2.trans gc) hDc ral⟩
    · rw [if_neg hz] at hr'
      cases hr'
def o5 {A B C D E R : Type} (f : A -> B -> C -> D -> E -> Option R) (ma : Option A) (mb : Option B) (mc : Option C) (md : Option D) (me : Option E) : Option R := ma.bind fun a => mb.bind fun b => mc.bind fun c => md.bind fun d => me.bind fun e => f a b c d e
theorem em5 {T5 R : Type} [Rp T5] [Rp R] {td tf : TE} {f : A -> B -> C -> D -> T5 -> Option R} {ma : Option A} {mb : Option B} {mc : Option C} {md : Option D} {me : Option T5} (ha : EvB K ta σ H ma) (hb : EvB K tb σ H mb) (hc : EvB K tc σ H mc) (hd : EvB K td σ H md) (he : EvB K tf σ H me) : EvM (tCons ta (tCons tb (tCons tc (tCons td (tCons tf tNil))))) σ H (A5 K f) (o5 f ma mb mc md me) := fun r hr H1 e Q q => by
  obtain ⟨x, e1, hr⟩ := bnd hr
  obtain ⟨y, e2, hr⟩ := bnd hr
  obtain ⟨z, e3, hr⟩ := bnd hr
  obtain ⟨w0, e4, hr⟩ := bnd hr
  obtain ⟨u0, e5, hr⟩ := bnd hr
  exact ha x e1 H1 e _ fun v H2 g2 r2 => hb y e2 H2 (e.trans g2) _ fun w H3 g3 r3 => hc z e3 H3 ((e.trans g2).trans g3) _ fun w3 H4 g4 r4 => hd w0 e4 H4 (((e.trans g2).trans g3).trans g4) _ fun w4 H5 g5 r5 => he u0 e5 H5 ((((e.trans g2).trans g3).trans g4).trans g5) _ fun w5 H6 g6 r6 => q _ H6 ((((g2.trans g3).trans g4).trans g5).trans g6) ⟨v, w, w3, w4, w5, x, y, z, w0, u0, rfl, Rp.mono (((g3.trans g4).trans g5).trans g6) r2, Rp.mono ((g4.trans g5).trans g6) r3, Rp.mono (g5.trans g6) r4, Rp.mono g6 r5, r6, hr⟩
theorem sr_o {m : Option A} {x : A} (h : EvO K te σ G H m) (hm : m = some x) (a : At G H L) (k : forall v G2 H2, Gx G G2 -> Gx H H2 -> At G2 H2 L -> rp K G2 v x -> X.rt v H2) : tSeq (tRet te) u X σ H := h x hm G H L Gx.rfl Gx.rfl a _ k
/-- a def of five, the third and the fourth lists that it changes -/
def PSd {A1 A2 C D A5 R : Type} [Rp A1] [Rp A2] [Rp C] [Rp D] [Rp A5] [Rp R] (K : Fg) (m : A1 -> A2 -> List C -> List D -> A5 -> Option (R × List C × List D)) : Sp := fun vs H Q _ =>
  exists (LL : Led) (G : Hp) (v1 v2 v5 : V) (p3 p4 : Addr) (ws3 ws4 : List V) (x1 : A1) (x2 : A2) (x3 : List C) (x4 : List D) (x5 : A5) (r : R × List C × List D), vs = [v1, v2, .ref p3, .ref p4, v5] ∧ At G H ((p4, .lst ws4) :: (p3, .lst ws3) :: LL) ∧ rp K G v1 x1 ∧ rp K G v2 x2 ∧ Al (rp K G) ws3 x3 ∧ Al (rp K G) ws4 x4 ∧ rp K G v5 x5 ∧ m x1 x2 x3 x4 x5 = some r ∧
    forall w G2 H2 us3 us4, Gx G G2 -> Gx (mns H [p3, p4]) H2 -> At G2 H2 ((p4, .lst us4) :: (p3, .lst us3) :: LL) -> rp K G2 w r.1 -> Al (rp K G2) us3 r.2.1 -> Al (rp K G2) us4 r.2.2 -> Q w H2
theorem st_callD {A1 A2 C D A5 R : Type} [Rp A1] [Rp A2] [Rp C] [Rp D] [Rp A5] [Rp R] {m : A1 -> A2 -> List C -> List D -> A5 -> Option (R × List C × List D)} {t1 t2 t5 : TE} {m1 : Option A1} {m2 : Option A2} {m5 : Option A5} {x1 : A1} {x2 : A2} {x3 : List C} {x4 : List D} {x5 : A5} {i3 i4 : Nat} {p3 p4 : Addr} {ws3 ws4 : List V} {r : R × List C × List D} {E : XK}
    (h1 : EvO K t1 σ G H m1) (e1 : m1 = some x1) (h2 : EvO K t2 σ G H m2) (e2 : m2 = some x2) (s3 : σ[i3]? = some (some (.ref p3))) (s4 : σ[i4]? = some (some (.ref p4))) (h5 : EvO K t5 σ G H m5) (e5 : m5 = some x5)
    (a : At G H ((p4, .lst ws4) :: (p3, .lst ws3) :: L)) (al3 : Al (rp K G) ws3 x3) (al4 : Al (rp K G) ws4 x4) (hm : m x1 x2 x3 x4 x5 = some r)
    (k : forall w G2 H2 us3 us4, Gx G G2 -> Gx (mns H [p3, p4]) H2 -> At G2 H2 ((p4, .lst us4) :: (p3, .lst us3) :: L) -> rp K G2 w r.1 -> Al (rp K G2) us3 r.2.1 -> Al (rp K G2) us4 r.2.2 -> u X (σ.set i (some w)) H2) :
    tSeq (tAsg (tCall (PSd K m) [] E (tCons t1 (tCons t2 (tCons (tVar i3) (tCons (tVar i4) (tCons t5 tNil)))))) (gName i)) u X σ H := by
  refine h1 x1 e1 G H _ Gx.rfl Gx.rfl a _ fun v1 G1 H1 g1 f1 a1 r1 => ?_
  refine h2 x2 e2 G1 H1 _ g1 f1 a1 _ fun v2 G2 H2 g2 f2 a2 r2 => ?_
  refine ⟨_, s3, _, s4, ?_⟩
  refine h5 x5 e5 G2 H2 _ (g1.trans g2) (f1.trans f2) a2 _ fun v5 G3 H3 g3 f3 a3 r5 => ?_
  have gg := (g1.trans g2).trans g3
  exact ⟨L, G3, v1, v2, v5, p3, p4, ws3, ws4, x1, x2, x3, x4, x5, r, rfl, a3, Rp.mono (g2.trans g3) r1, Rp.mono g3 r2, al3.mono fun _ _ => Rp.mono gg, al4.mono fun _ _ => Rp.mono gg, r5, hm,
    fun w G4 H4 us3 us4 g4 f4 a4 rw' b3 b4 => k w G4 H4 us3 us4 (gg.trans g4) ((mns_mono ((f1.trans f2).trans f3)).trans f4) a4 rw' b3 b4⟩
end
section
variable {X : Cx} {K : Fg} {tg e : Expr} {ta : TE}
theorem piL_K (h : X.K = K) (he : PE X e ta) : PI X tg e (iList K ta) := h ▸ pi_list he
theorem piT_K (h : X.K = K) (he : PE X e ta) : PI X tg e (iTup K ta) := h ▸ pi_tup he
end
end Pu

set_option Elab.async false
set_option linter.all false
set_option maxRecDepth 100000
namespace Pu
open Pu.Rp (rp)
open PySem PySem.Spec PyProof.Rows L2
theorem snoc {A : Type} : forall s : List A, s = [] ∨ exists t l, s = t ++ [l]
  | [] => .inl rfl
  | x :: s => .inr (match snoc s with
    | .inl h => ⟨[], x, by rw [h]; rfl⟩
    | .inr ⟨t, l, h⟩ => ⟨x :: t, l, by rw [h]; rfl⟩)
theorem ix_last {A : Type} (s : List A) (l : A) : ix (s ++ [l]) (-1) = some l := atI_last s l
theorem fPop_last {A : Type} (s : List A) (l : A) : fPop (s ++ [l]) = some (l, s) := by
  unfold fPop
  simp
theorem fSet_last {A : Type} (s : List A) (l y : A) : fSetL (s ++ [l]) (-1) y = some (s ++ [y]) := by
  have e : ixN (s ++ [l]).length (-1) = some s.length := by
    unfold ixN
    rw [if_neg (by decide), if_pos (by simp; omega)]
    congr 1
    simp
    omega
  unfold fSetL
  rw [e]
  simp
theorem ix_nat {A : Type} {s : List A} {i : Int} (h0 : 0 ≤ i) (h1 : i < s.length) : exists x, ix s i = some x ∧ x ∈ s ∧ s[i.toNat]? = some x := by
  have h : i.toNat < s.length := by omega
  refine ⟨s[i.toNat], ?_, List.getElem_mem h, List.getElem?_eq_getElem h⟩
  have := atI_nat (List.getElem?_eq_getElem h)
  rwa [show ((i.toNat : Nat) : Int) = i by omega] at this
theorem cutM_len {A : Type} (xs : List A) (lo hi : Option Int) : (cutM xs lo hi).length ≤ xs.length := by
  unfold cutM
  simp only [List.length_take, List.length_drop]
  omega
/-! sets of whole numbers by stretches -/
def inn (L : List (Int × Int)) (n : Int) : Prop := exists p, p ∈ L ∧ p.1 ≤ n ∧ n ≤ p.2
theorem inn_nil {n : Int} : ¬ inn [] n := fun ⟨p, h, _⟩ => nomatch h
theorem inn_cons {p : Int × Int} {L : List (Int × Int)} {n : Int} : inn (p :: L) n ↔ (p.1 ≤ n ∧ n ≤ p.2) ∨ inn L n :=
  ⟨fun ⟨q, h, a⟩ => by
    rcases List.mem_cons.mp h with rfl | h
    · exact .inl a
    · exact .inr ⟨q, h, a⟩, fun h => by
    rcases h with a | ⟨q, h, a⟩
    · exact ⟨p, List.mem_cons_self, a⟩
    · exact ⟨q, List.mem_cons_of_mem _ h, a⟩⟩
theorem inn_app {L M : List (Int × Int)} {n : Int} : inn (L ++ M) n ↔ inn L n ∨ inn M n :=
  ⟨fun ⟨q, h, a⟩ => by
    rcases List.mem_append.mp h with h | h
    · exact .inl ⟨q, h, a⟩
    · exact .inr ⟨q, h, a⟩, fun h => by
    rcases h with ⟨q, h, a⟩ | ⟨q, h, a⟩
    · exact ⟨q, List.mem_append_left _ h, a⟩
    · exact ⟨q, List.mem_append_right _ h, a⟩⟩
theorem inn_one {p : Int × Int} {n : Int} : inn [p] n ↔ p.1 ≤ n ∧ n ≤ p.2 := inn_cons.trans ⟨fun h => h.elim id fun h => (inn_nil h).elim, .inl⟩
theorem inn_of {L M : List (Int × Int)} (h : forall p, p ∈ L ↔ p ∈ M) {n : Int} : inn L n ↔ inn M n := ⟨fun ⟨p, a, b⟩ => ⟨p, (h p).mp a, b⟩, fun ⟨p, a, b⟩ => ⟨p, (h p).mpr a, b⟩⟩
def Nrm (L : List (Int × Int)) : Prop := (forall p, p ∈ L -> p.1 ≤ p.2) ∧ L.Pairwise (fun p q => p.2 + 1 < q.1)
theorem Nrm.nil : Nrm [] := ⟨fun _ h => (nomatch h), List.Pairwise.nil⟩
theorem Nrm.tail {p : Int × Int} {L : List (Int × Int)} (h : Nrm (p :: L)) : Nrm L := ⟨fun q z => h.1 q (List.mem_cons_of_mem _ z), (List.pairwise_cons.mp h.2).2⟩
theorem Nrm.snoc {L : List (Int × Int)} {p : Int × Int} (h : Nrm L) (hp : p.1 ≤ p.2) (g : forall q, q ∈ L -> q.2 + 1 < p.1) : Nrm (L ++ [p]) :=
  ⟨fun q z => by
    rcases List.mem_append.mp z with z | z
    · exact h.1 q z
    · rw [List.mem_singleton.mp z]; exact hp, List.pairwise_append.mpr ⟨h.2, List.pairwise_singleton _ _, fun a ha b hb => by rw [List.mem_singleton.mp hb]; exact g a ha⟩⟩
theorem Nrm.init {L M : List (Int × Int)} (h : Nrm (L ++ M)) : Nrm L := ⟨fun q z => h.1 q (List.mem_append_left _ z), (List.pairwise_append.mp h.2).1⟩
theorem Nrm.last {L : List (Int × Int)} {p : Int × Int} (h : Nrm (L ++ [p])) : p.1 ≤ p.2 ∧ forall q, q ∈ L -> q.2 + 1 < p.1 :=
  ⟨h.1 p (by simp), fun q hq => (List.pairwise_append.mp h.2).2.2 q hq p (by simp)⟩
theorem Nrm.behind {p : Int × Int} {L : List (Int × Int)} (h : Nrm (p :: L)) {n : Int} (hn : inn L n) : p.2 + 1 < n := by
  obtain ⟨q, a, b, c⟩ := hn
  have := (List.pairwise_cons.mp h.2).1 q a
  omega
theorem nm_uniq : forall {L M : List (Int × Int)}, Nrm L -> Nrm M -> (forall n, inn L n ↔ inn M n) -> L = M
  | [], [], _, _, _ => rfl
  | [], q :: M, _, h2, h => (inn_nil ((h q.1).mpr (inn_cons.mpr (.inl ⟨Int.le_refl _, h2.1 q List.mem_cons_self⟩)))).elim
  | p :: L, [], h1, _, h => (inn_nil ((h p.1).mp (inn_cons.mpr (.inl ⟨Int.le_refl _, h1.1 p List.mem_cons_self⟩)))).elim
  | p :: L, q :: M, h1, h2, h => by
    have hp := h1.1 p List.mem_cons_self
    have hq := h2.1 q List.mem_cons_self
    have low : p.1 = q.1 := by
      have a : q.1 ≤ p.1 := by
        rcases inn_cons.mp ((h p.1).mp (inn_cons.mpr (.inl ⟨Int.le_refl _, hp⟩))) with a | a
        · exact a.1
        · have := h2.behind a; omega
      have b : p.1 ≤ q.1 := by
        rcases inn_cons.mp ((h q.1).mpr (inn_cons.mpr (.inl ⟨Int.le_refl _, hq⟩))) with a | a
        · exact a.1
        · have := h1.behind a; omega
      omega
    have high : p.2 = q.2 := by
      rcases Int.lt_trichotomy p.2 q.2 with c | c | c
      · rcases inn_cons.mp ((h (p.2 + 1)).mpr (inn_cons.mpr (.inl ⟨by omega, by omega⟩))) with a | a
        · omega
        · have := h1.behind a; omega
      · exact c
      · rcases inn_cons.mp ((h (q.2 + 1)).mp (inn_cons.mpr (.inl ⟨by omega, by omega⟩))) with a | a
        · omega
        · have := h2.behind a; omega
    have e : p = q := Prod.ext low high
    subst e
    rw [nm_uniq h1.tail h2.tail fun n => ⟨fun a => by
      rcases inn_cons.mp ((h n).mp (inn_cons.mpr (.inr a))) with b | b
      · have := h1.behind a; omega
      · exact b, fun a => by
      rcases inn_cons.mp ((h n).mpr (inn_cons.mpr (.inr a))) with b | b
      · have := h2.behind a; omega
      · exact b⟩]
theorem psort_mem {x : List (Int × Int)} (p : Int × Int) : p ∈ psort x ↔ p ∈ x := (psort_perm x).mem_iff
theorem psort_low (x : List (Int × Int)) : (psort x).Pairwise fun p q => p.1 ≤ q.1 := (psort_le x).imp fun h => by rw [ple_iff] at h; omega
theorem psort_len (x : List (Int × Int)) : (psort x).length = x.length := (psort_perm x).length_eq
theorem isort_mem {x : List Int} (p : Int) : p ∈ isort x ↔ p ∈ x := (isort_perm x).mem_iff
theorem isort_len (x : List Int) : (isort x).length = x.length := (isort_perm x).length_eq
/-- no two alike: they rise strictly -/
theorem isort_lt {x : List Int} (h : x.Nodup) : (isort x).Pairwise (· < ·) := by
  have a := isort_le x
  have b : (isort x).Nodup := (isort_perm x).nodup_iff.mpr h
  exact (List.Pairwise.and a b).imp fun ⟨p, q⟩ => by omega
/-! fields of numbers -/
theorem comp_all {I A : Type} {c : I -> Option Bool} {f : I -> Option A} {g : I -> A} : forall {xs : List I}, (forall x, x ∈ xs -> c x = some true) -> (forall x, x ∈ xs -> f x = some (g x)) -> comp c f xs = some (xs.map g)
  | [], _, _ => rfl
  | x :: xs, hc, h => by
    unfold comp
    rw [hc x List.mem_cons_self, h x List.mem_cons_self, comp_all (fun y hy => hc y (List.mem_cons_of_mem _ hy)) fun y hy => h y (List.mem_cons_of_mem _ hy)]
    rfl
theorem comp_ex {I A : Type} {f : I -> Option A} {P : A -> Prop} : forall {xs : List I}, (forall x, x ∈ xs -> exists y, f x = some y ∧ P y) -> exists r, comp (fun _ => some true) f xs = some r ∧ r.length = xs.length ∧ forall y, y ∈ r -> P y
  | [], _ => ⟨[], rfl, rfl, fun _ h => nomatch h⟩
  | x :: xs, h => by
    obtain ⟨y, e, p⟩ := h x List.mem_cons_self
    obtain ⟨r, e2, l, p2⟩ := comp_ex (xs := xs) fun z hz => h z (List.mem_cons_of_mem _ hz)
    refine ⟨y :: r, by simp [comp, e, e2], by simp [l], fun z hz => ?_⟩
    rcases List.mem_cons.mp hz with rfl | hz
    · exact p
    · exact p2 z hz
theorem comp_filter {I : Type} {c : I -> Bool} : forall {xs : List I}, comp (fun x => some (c x)) (fun x => some x) xs = some (xs.filter c)
  | [] => rfl
  | x :: xs => by
    unfold comp
    rw [comp_filter (xs := xs)]
    cases h : c x <;> simp [h]
theorem fMul_1 {i j : Int} (h : -18446744073709551616 < i ∧ i < 18446744073709551616 ∨ -18446744073709551616 < j ∧ j < 18446744073709551616) : fMul i j = some (i * j) := by
  unfold fMul mulOk
  rw [if_pos]
  rw [Bool.or_eq_true, Bool.and_eq_true, Bool.and_eq_true]
  simpa using h
theorem fMod_1 {i j : Int} (h : 0 < j) : fMod i j = some (i % j) := if_pos h
theorem fDiv_1 {i j : Int} (h : 0 < j ∧ j < 1073741824) : fDiv i j = some (i / j) := if_pos h
theorem fPow_1 {i : Int} {n : Nat} (h : n ≤ 1000000 ∧ i.natAbs < 18446744073709551616) : fPow i (n : Int) = some (i ^ n) := by
  unfold fPow powOk
  rw [if_pos]
  · rfl
  · simp; omega
theorem imin_le {i j : Int} : imin i j ≤ i ∧ imin i j ≤ j ∧ (imin i j = i ∨ imin i j = j) := by unfold imin; split <;> omega
theorem imax_le {i j : Int} : i ≤ imax i j ∧ j ≤ imax i j ∧ (imax i j = i ∨ imax i j = j) := by unfold imax; split <;> omega
end Pu

set_option Elab.async false
set_option linter.all false
set_option maxRecDepth 100000
namespace Pu
open Pu.Rp (rp)
open PySem PySem.Spec PyProof.Rows L2
def evs {A : Type} : List A -> List A
  | a :: _ :: r => a :: evs r
  | l => l
def ods {A : Type} : List A -> List A
  | _ :: b :: r => b :: ods r
  | _ => []
theorem pick_evs {A : Type} : forall xs : List A, ((List.range ((xs.length + 1) / 2)).map fun k => 2 * k).filterMap (xs[·]?) = evs xs
  | [] => by simp [evs]
  | [a] => by simp [evs, List.range_succ]
  | a :: b :: r => by
    have ih := pick_evs r
    have e : ((a :: b :: r).length + 1) / 2 = (r.length + 1) / 2 + 1 := by simp only [List.length_cons]; omega
    rw [e, List.range_succ_eq_map, List.map_cons, List.map_map, List.filterMap_cons_some (f := fun x => (a :: b :: r)[x]?) (b := a) rfl]
    unfold evs
    rw [← ih, List.filterMap_map, List.filterMap_map]
    congr 1
theorem pick_ods {A : Type} : forall xs : List A, ((List.range (xs.length / 2)).map fun k => 1 + 2 * k).filterMap (xs[·]?) = ods xs
  | [] => by simp [ods]
  | [a] => by simp [ods]
  | a :: b :: r => by
    have ih := pick_ods r
    have e : (a :: b :: r).length / 2 = r.length / 2 + 1 := by simp only [List.length_cons]; omega
    rw [e, List.range_succ_eq_map, List.map_cons, List.map_map, List.filterMap_cons_some (f := fun x => (a :: b :: r)[x]?) (b := b) rfl]
    unfold ods
    rw [← ih, List.filterMap_map, List.filterMap_map]
    congr 1
theorem stepM_evs {A : Type} (xs : List A) : stepM xs none none 2 = evs xs := by
  rw [← pick_evs]
  unfold stepM sliceBounds sliceRange
  simp only [Option.getD_some, Int.cast_ofNat_Int, gt_iff_lt, Int.reduceLT, if_true]
  congr 1
  by_cases h : xs.length = 0
  · simp [h]
  · rw [if_pos (by omega)]
    rw [show (((xs.length : Int) - 0 + 2 - 1) / 2).toNat = (xs.length + 1) / 2 by omega]
    congr 1
    funext k
    omega
theorem stepM_ods {A : Type} (xs : List A) : stepM xs (some 1) none 2 = ods xs := by
  rw [← pick_ods]
  unfold stepM sliceBounds sliceRange
  simp only [Option.getD_some, Int.cast_ofNat_Int, gt_iff_lt, Int.reduceLT, if_true, if_false]
  congr 1
  by_cases h : xs.length ≤ 1
  · rw [if_neg (by omega), show xs.length / 2 = 0 by omega]
    rfl
  · rw [if_pos (by omega)]
    rw [show ((xs.length : Int) - max 0 (min 1 (xs.length : Int)) + 2 - 1) / 2 = ((xs.length / 2 : Nat) : Int) by omega]
    congr 1
    funext k
    omega
/-! sorted(set(..)) -/
theorem sins_mem {x c : Int} : forall {l : List Int}, c ∈ sins x l ↔ c = x ∨ c ∈ l
  | [] => by simp [sins]
  | y :: r => by
    unfold sins
    split
    · simp
    · split
      · rename_i h; subst h; simp
      · rw [List.mem_cons, sins_mem (l := r), List.mem_cons]
        exact ⟨fun h => h.elim (fun h => .inr (.inl h)) fun h => h.elim .inl fun h => .inr (.inr h), fun h => h.elim (fun h => .inr (.inl h)) fun h => h.elim .inl fun h => .inr (.inr h)⟩
theorem sins_lt {x : Int} : forall {l : List Int}, l.Pairwise (· < ·) -> (sins x l).Pairwise (· < ·)
  | [], _ => by simp [sins]
  | y :: r, h => by
    obtain ⟨h1, h2⟩ := List.pairwise_cons.mp h
    unfold sins
    split
    · rename_i c
      exact List.pairwise_cons.mpr ⟨fun z hz => by
        rcases List.mem_cons.mp hz with rfl | hz
        · exact c
        · have := h1 z hz; omega, h⟩
    · split
      · exact h
      · exact List.pairwise_cons.mpr ⟨fun z hz => by
          rcases sins_mem.mp hz with rfl | hz
          · omega
          · exact h1 z hz, sins_lt h2⟩
theorem sins_len {x : Int} : forall {l : List Int}, (sins x l).length ≤ l.length + 1
  | [] => by simp [sins]
  | y :: r => by
    have := @sins_len x r
    unfold sins
    split
    · simp
    · split
      · simp
      · simp only [List.length_cons]; omega
theorem sset_ok : forall x : List Int, (sset x).Pairwise (· < ·) ∧ (forall c, c ∈ sset x ↔ c ∈ x) ∧ (sset x).length ≤ x.length
  | [] => ⟨List.Pairwise.nil, fun _ => Iff.rfl, Nat.le_refl _⟩
  | a :: x => by
    obtain ⟨h1, h2, h3⟩ := sset_ok x
    refine ⟨sins_lt h1, fun c => ?_, Nat.le_trans sins_len (by simp only [List.length_cons]; unfold sset at h3; omega)⟩
    show c ∈ sins a (sset x) ↔ _
    rw [sins_mem, h2, List.mem_cons]
end Pu

set_option Elab.async false
set_option linter.all false
set_option maxRecDepth 100000
namespace Pu
open Pu.Rp (rp)
open PySem PySem.Spec PyProof.Rows L2
/-! things of any kind -/
inductive Dy where
  | non : Dy
  | bl : Bool -> Dy
  | int : Int -> Dy
  | str : Str -> Dy
  | dct : Dy
  | tup : List Dy -> Dy
  | lst : List Dy -> Dy
mutual
def rpY (K : Fg) (H : Hp) : Dy -> V -> Prop
  | .non, v => v = .non
  | .bl b, v => v = .bl b
  | .int i, v => v = .int i
  | .str s, v => v = .str s
  | .dct, v => exists a, v = .ref a ∧ H a = some (.dK [])
  | .tup xs, v => exists a vs, v = .ref a ∧ H a = some (.tup vs) ∧ rpYs K H xs vs
  | .lst xs, v => exists a vs, v = .ref a ∧ H a = some (.lst vs) ∧ rpYs K H xs vs
def rpYs (K : Fg) (H : Hp) : List Dy -> List V -> Prop
  | [], vs => vs = []
  | x :: xs, vs => exists v ws, vs = v :: ws ∧ rpY K H x v ∧ rpYs K H xs ws
end
mutual
theorem rpY_mono {K : Fg} {H H' : Hp} (e : Gx H H') : forall (x : Dy) (v : V), rpY K H x v -> rpY K H' x v
  | .non, v, h => by rw [rpY] at h ⊢; exact h
  | .bl b, v, h => by rw [rpY] at h ⊢; exact h
  | .int i, v, h => by rw [rpY] at h ⊢; exact h
  | .str s, v, h => by rw [rpY] at h ⊢; exact h
  | .dct, v, h => by
    rw [rpY] at h ⊢
    obtain ⟨a, h1, h2⟩ := h
    exact ⟨a, h1, e _ _ h2⟩
  | .tup xs, v, h => by
    rw [rpY] at h ⊢
    obtain ⟨a, vs, h1, h2, h3⟩ := h
    exact ⟨a, vs, h1, e _ _ h2, rpYs_mono e xs vs h3⟩
  | .lst xs, v, h => by
    rw [rpY] at h ⊢
    obtain ⟨a, vs, h1, h2, h3⟩ := h
    exact ⟨a, vs, h1, e _ _ h2, rpYs_mono e xs vs h3⟩
theorem rpYs_mono {K : Fg} {H H' : Hp} (e : Gx H H') : forall (xs : List Dy) (vs : List V), rpYs K H xs vs -> rpYs K H' xs vs
  | [], vs, h => by rw [rpYs] at h ⊢; exact h
  | x :: xs, vs, h => by
    rw [rpYs] at h ⊢
    obtain ⟨v, ws, h1, h2, h3⟩ := h
    exact ⟨v, ws, h1, rpY_mono e x v h2, rpYs_mono e xs ws h3⟩
end
instance : Rp Dy := ⟨fun K H v x => rpY K H x v, fun e h => rpY_mono e _ _ h⟩
theorem rpYs_al {K : Fg} {H : Hp} : forall {xs : List Dy} {vs : List V}, rpYs K H xs vs -> Al (rp K H) vs xs
  | [], vs, h => by rw [rpYs] at h; subst h; trivial
  | x :: xs, vs, h => by
    rw [rpYs] at h
    obtain ⟨v, ws, rfl, h2, h3⟩ := h
    exact ⟨h2, rpYs_al h3⟩
theorem al_rpYs {K : Fg} {H : Hp} : forall {xs : List Dy} {vs : List V}, Al (rp K H) vs xs -> rpYs K H xs vs
  | [], [], _ => by rw [rpYs]
  | x :: xs, v :: vs, h => by
    rw [rpYs]
    exact ⟨v, vs, rfl, h.1, al_rpYs h.2⟩
  | [], _ :: _, h => h.elim
  | _ :: _, [], h => h.elim
/-- what stands for a thing of a known kind stands for the same as a thing of any kind -/
class ToY (A : Type) [Rp A] where
  to : A -> Dy
  ok : forall {K : Fg} {H : Hp} {v : V} {x : A}, rp K H v x -> rp K H v (to x)
instance : ToY Dy := ⟨id, fun h => h⟩
instance : ToY Int := ⟨.int, fun {K H v x} h => by show rpY K H (.int x) v; rw [rpY]; exact h⟩
instance : ToY Bool := ⟨.bl, fun {K H v x} h => by show rpY K H (.bl x) v; rw [rpY]; exact h⟩
instance : ToY Str := ⟨.str, fun {K H v x} h => by show rpY K H (.str x) v; rw [rpY]; exact h⟩
instance : ToY Unit := ⟨fun _ => .non, fun {K H v x} h => by show rpY K H .non v; rw [rpY]; exact h⟩
theorem al_toY {A : Type} [Rp A] [ToY A] {K : Fg} {H : Hp} : forall {vs : List V} {xs : List A}, Al (rp K H) vs xs -> Al (rp K H) vs (xs.map ToY.to)
  | [], [], _ => trivial
  | v :: vs, x :: xs, h => ⟨ToY.ok h.1, al_toY h.2⟩
  | [], _ :: _, h => h.elim
  | _ :: _, [], h => h.elim
instance {A B : Type} [Rp A] [Rp B] [ToY A] [ToY B] : ToY (A × B) := ⟨fun x => .tup [ToY.to x.1, ToY.to x.2], fun {K H v x} h => by
  obtain ⟨a, u, w, h1, h2, h3, h4⟩ := h
  show rpY K H (.tup _) v
  rw [rpY]
  exact ⟨a, [u, w], h1, h2, al_rpYs ⟨ToY.ok h3, ToY.ok h4, trivial⟩⟩⟩
instance {A : Type} [Rp A] [ToY A] : ToY (Tl A) := ⟨fun x => .tup (x.l.map ToY.to), fun {K H v x} h => by
  obtain ⟨a, vs, h1, h2, h3⟩ := h
  show rpY K H (.tup _) v
  rw [rpY]
  exact ⟨a, vs, h1, h2, al_rpYs (al_toY h3)⟩⟩
instance {A : Type} [Rp A] [ToY A] : ToY (List A) := ⟨fun x => .lst (x.map ToY.to), fun {K H v x} h => by
  obtain ⟨a, vs, h1, h2, h3⟩ := h
  show rpY K H (.lst _) v
  rw [rpY]
  exact ⟨a, vs, h1, h2, al_rpYs (al_toY h3)⟩⟩
section
variable {K : Fg} {A : Type} [Rp A] [ToY A] {σ : L2.St} {H : Hp} {te : TE}
theorem x_toY {m : Option A} (h : EvB K te σ H m) : EvB (A := Dy) K te σ H (m.map ToY.to) := fun x hx H1 e Q q => by
  obtain ⟨a, ha, rfl⟩ := Option.map_eq_some_iff.mp hx
  exact h a ha H1 e Q fun v H2 g r => q v H2 g (ToY.ok r)
end
end Pu

set_option Elab.async false
set_option linter.all false
set_option maxRecDepth 100000
namespace Pu
open Pu.Rp (rp)
open PySem PySem.Spec PyProof.Rows L2
def nmY : Dy -> String
  | .non => "NoneType"
  | .bl _ => "bool"
  | .int _ => "int"
  | .str _ => "str"
  | .dct => "dict"
  | .tup _ => "tuple"
  | .lst _ => "list"
theorem tyY {K : Fg} {H : Hp} {v : V} {d : Dy} (h : rp K H v d) : TyX K H v (.type (nmY d)) := by
  have h' : rpY K H d v := h
  cases d with
  | non => rw [rpY] at h'; subst h'; exact .base .non
  | bl b => rw [rpY] at h'; subst h'; exact .base (.bl _)
  | int i => rw [rpY] at h'; subst h'; exact .base (.int _)
  | str s => rw [rpY] at h'; subst h'; exact .base (.str _)
  | dct => rw [rpY] at h'; obtain ⟨a, rfl, h2⟩ := h'; exact .base (.dK h2)
  | tup xs => rw [rpY] at h'; obtain ⟨a, vs, rfl, h2, _⟩ := h'; exact .base (.tup h2)
  | lst xs => rw [rpY] at h'; obtain ⟨a, vs, rfl, h2, _⟩ := h'; exact .base (.lst h2)
def isN (n m : String) : Bool := m == n || (m == "bool" && n == "int")
def isY (n : String) (d : Dy) : Bool := isN n (nmY d)
theorem kitY_int {K : Fg} (d : Dy) : PySem.W.kitOne K (.type (nmY d)) (.type "int") = some (isY "int" d) := by cases d <;> (simp only [isY, nmY]; exact L2.kit_ty (by decide +kernel))
theorem kitY_bool {K : Fg} (d : Dy) : PySem.W.kitOne K (.type (nmY d)) (.type "bool") = some (isY "bool" d) := by cases d <;> (simp only [isY, nmY]; exact L2.kit_ty (by decide +kernel))
theorem kitY_str {K : Fg} (d : Dy) : PySem.W.kitOne K (.type (nmY d)) (.type "str") = some (isY "str" d) := by cases d <;> (simp only [isY, nmY]; exact L2.kit_ty (by decide +kernel))
theorem kitY_list {K : Fg} (d : Dy) : PySem.W.kitOne K (.type (nmY d)) (.type "list") = some (isY "list" d) := by cases d <;> (simp only [isY, nmY]; exact L2.kit_ty (by decide +kernel))
theorem kitY_tuple {K : Fg} (d : Dy) : PySem.W.kitOne K (.type (nmY d)) (.type "tuple") = some (isY "tuple" d) := by cases d <;> (simp only [isY, nmY]; exact L2.kit_ty (by decide +kernel))
theorem kitY_dict {K : Fg} (d : Dy) : PySem.W.kitOne K (.type (nmY d)) (.type "dict") = some (isY "dict" d) := by cases d <;> (simp only [isY, nmY]; exact L2.kit_ty (by decide +kernel))
section
variable {K : Fg} {A B : Type} [Rp A] [Rp B] {σ : L2.St} {H : Hp} {ta te : TE}
def fIsY (n : String) (d : Dy) : Option Bool := some (isY n d)
theorem x_isiY {n : String} {ma : Option Dy} (h : forall d, PySem.W.kitOne K (.type (nmY d)) (.type n) = some (isY n d)) (ha : EvB K ta σ H ma) : EvB K (tCB (rIsi K) (tCons ta (tCons (tC (.ty n)) tNil))) σ H (o1 (fIsY n) ma) := fun x hx H1 e Q q => by
  obtain ⟨a, e1, e3⟩ := o1s hx
  cases e3
  exact ha a e1 H1 e _ fun v H2 g2 r2 => ⟨v, .ty n, _, _, _, rfl, .ty n, tyY r2, h a, q _ H2 g2 rfl⟩
/-! a thing of any kind, where its kind is known -/
def yInt : Dy -> Option Int
  | .int i => some i
  | _ => none
def yBl : Dy -> Option Bool
  | .bl b => some b
  | _ => none
def yStr : Dy -> Option Str
  | .str s => some s
  | _ => none
def yPair : Dy -> Option (Dy × Dy)
  | .tup [a, b] => some (a, b)
  | _ => none
def yTl : Dy -> Option (Tl Dy)
  | .tup xs => some ⟨xs⟩
  | _ => none
def yLst : Dy -> Option (List Dy)
  | .lst xs => some xs
  | _ => none
/-- a cast that changes nothing but what is told of the value -/
theorem x_cast {f : A -> Option B} (hf : forall {K : Fg} {H : Hp} {v : V} {a : A} {b : B}, f a = some b -> rp K H v a -> rp K H v b) {m : Option A} (h : EvB K te σ H m) : EvB K te σ H (o1 f m) := fun x hx H1 e Q q => by
  obtain ⟨a, e1, e2⟩ := o1s hx
  exact h a e1 H1 e Q fun v H2 g r => q v H2 g (hf e2 r)
theorem y_int {K : Fg} {H : Hp} {v : V} {a : Dy} {b : Int} (h : yInt a = some b) (r : rp K H v a) : rp K H v b := by
  cases a <;> cases h
  have r' : rpY K H _ v := r
  rw [rpY] at r'
  exact r'
theorem y_bl {K : Fg} {H : Hp} {v : V} {a : Dy} {b : Bool} (h : yBl a = some b) (r : rp K H v a) : rp K H v b := by
  cases a <;> cases h
  have r' : rpY K H _ v := r
  rw [rpY] at r'
  exact r'
theorem y_str {K : Fg} {H : Hp} {v : V} {a : Dy} {b : Str} (h : yStr a = some b) (r : rp K H v a) : rp K H v b := by
  cases a <;> cases h
  have r' : rpY K H _ v := r
  rw [rpY] at r'
  exact r'
theorem y_tl {K : Fg} {H : Hp} {v : V} {a : Dy} {b : Tl Dy} (h : yTl a = some b) (r : rp K H v a) : rp K H v b := by
  cases a <;> cases h
  have r' : rpY K H (.tup _) v := r
  rw [rpY] at r'
  obtain ⟨p, vs, h1, h2, h3⟩ := r'
  exact ⟨p, vs, h1, h2, rpYs_al h3⟩
theorem y_lst {K : Fg} {H : Hp} {v : V} {a : Dy} {b : List Dy} (h : yLst a = some b) (r : rp K H v a) : rp K H v b := by
  cases a <;> cases h
  have r' : rpY K H (.lst _) v := r
  rw [rpY] at r'
  obtain ⟨p, vs, h1, h2, h3⟩ := r'
  exact ⟨p, vs, h1, h2, rpYs_al h3⟩
theorem y_pair {K : Fg} {H : Hp} {v : V} {a : Dy} {b : Dy × Dy} (h : yPair a = some b) (r : rp K H v a) : rp K H v b := by
  unfold yPair at h
  split at h
  · cases h
    have r' : rpY K H (.tup _) v := r
    rw [rpY] at r'
    obtain ⟨p, vs, h1, h2, h3⟩ := r'
    have q := rpYs_al h3
    match vs, q with
    | [u, w], q => exact ⟨p, u, w, h1, h2, q.1, q.2.1⟩
  · cases h
/-- as many casts as there are items -/
def mapO {A B : Type} (f : A -> Option B) : List A -> Option (List B)
  | [] => some []
  | x :: xs => (f x).bind fun y => (mapO f xs).bind fun ys => some (y :: ys)
theorem al_mapO {f : A -> Option B} (hf : forall {K : Fg} {H : Hp} {v : V} {a : A} {b : B}, f a = some b -> rp K H v a -> rp K H v b) {K : Fg} {H : Hp} : forall {vs : List V} {xs : List A} {ys : List B}, mapO f xs = some ys -> Al (rp K H) vs xs -> Al (rp K H) vs ys
  | [], [], ys, h, _ => by cases h; trivial
  | v :: vs, x :: xs, ys, h, r => by
    unfold mapO at h
    obtain ⟨y, e1, h⟩ := bnd h
    obtain ⟨zs, e2, h⟩ := bnd h
    cases h
    exact ⟨hf e1 r.1, al_mapO hf e2 r.2⟩
  | [], _ :: _, _, _, r => r.elim
  | _ :: _, [], _, _, r => r.elim
def yLenT (d : Dy) : Option Int := match d with
  | .tup xs => some xs.length
  | .lst xs => some xs.length
  | _ => none
end
end Pu

set_option Elab.async false
set_option linter.all false
set_option maxRecDepth 100000
namespace Pu
open Pu.Rp (rp)
open PySem PySem.Spec PyProof.Rows L2
/-! a caught error that is kept -/
/-- an error of the class cls at a -/
def ExV (cls : Value) (d : Option Addr) (a : Addr) : HO := .ext fun h => exists (oe : Obj) (vs : Array Value), h.get? a = some oe ∧ Zc cls d oe ∧ oe.data = .fields vs
theorem exV_ok {P : Program} {w : World} {H : Hp} {h : Heap} {a : Addr} {cls : Value} {d : Option Addr} {oe : Obj} {vs : Array Value} (e : h.get? a = some oe) (z : Zc cls d oe) (dd : oe.data = .fields vs) : ObjOk P w H h a (ExV cls d a) :=
  ⟨⟨oe, vs, e, z, dd⟩, ⟨oe, e⟩, fun _ _ ⟨o, v, q, r⟩ k => ⟨o, v, k o q, r⟩⟩
theorem Inv.track {X : Cx} {pins : List (Addr × Obj)} {σ : L2.St} {H : Hp} {s : Shared} {a : Addr} {oe : Obj} {cls : Value} {d : Option Addr} {vs : Array Value} (I : Inv X ((a, oe) :: pins) σ H s) (h0 : X.s_0.heap.get? a = none)
    (hp : forall p, p ∈ X.pn ++ pins -> p.1 ≠ a) (z : Zc cls d oe) (hd : oe.data = .fields vs) : Inv X pins σ (upd H a (ExV cls d a)) s := by
  obtain ⟨e, hn, nl, nf, nc⟩ := I.pin (a, oe) (by simp)
  have cn : forall x c, X.env.cells.lookup x = some c -> c ≠ a := fun x c ec q => by
    obtain ⟨v, o, ho, hv⟩ := I.cell x c ec
    rw [q] at ho
    have ho' : s.heap.get? a = some oe := e
    rw [ho'] at ho
    cases ho
    exact nc v hv
  refine ⟨I.ok, I.os, I.bare, ⟨fun b o h1 h2 h3 h4 => I.base.keep b o h1 h2 h3 h4, fun b o h1 h2 h3 h4 => I.base.slot b o h1 h2 h3 h4, fun b o h1 h2 h3 => ?_, fun b o h1 h2 => I.base.there b o h1 h2, fun b xs h1 => ?_, fun b o u h1 => ?_, fun b ps h1 => ?_⟩, I.loc, I.cell, ?_, fun x c ec => ?_, fun p hq => ?_, fun b u eb => ?_, I.len⟩
  · rw [upd_ne (fun q => by rw [q, h0] at h1; cases h1)]
    exact I.base.free b o h1 h2 h3
  · have := I.base.tups b xs h1
    rw [upd_ne (ne_of_none this hn)]; exact this
  · have := I.base.frzs b o u h1
    rw [upd_ne (ne_of_none this hn)]; exact this
  · obtain ⟨m, q⟩ := I.base.tbls b ps h1
    exact ⟨m, by rw [upd_ne (ne_of_none q hn)]; exact q⟩
  · rw [upd_ne (Ne.symm nl)]; exact I.free
  · rw [upd_ne (cn x c ec)]; exact I.freeC x c ec
  · obtain ⟨h1, h2, h3⟩ := I.pin p (by
      rcases List.mem_append.mp hq with h | h
      · exact List.mem_append_left _ h
      · exact List.mem_append_right _ (List.mem_cons_of_mem _ h))
    exact ⟨h1, by rw [upd_ne (hp p hq)]; exact h2, h3⟩
  · by_cases hb : b = a
    · subst hb
      rw [upd_same] at eb
      cases eb
      exact exV_ok e z hd
    · rw [upd_ne hb] at eb
      exact (I.hok b u eb).stay (fun c v _ q => q) (fun c q => by rw [upd_ne (ne_of_none q hn)]; exact q) fun c xs q => by rw [upd_ne (ne_of_none q hn)]; exact q
/-- the suite's ends: the error is tracked from then on, its name gone -/
def endV (i : Nat) (cls : Value) (d : Option Addr) (a : Addr) (D : Ends) : Ends where
  nx σ' H' := D.nx (σ'.set i none) (upd H' a (ExV cls d a))
  rt v H' := D.rt v (upd H' a (ExV cls d a))
  bk σ' H' := D.bk (σ'.set i none) (upd H' a (ExV cls d a))
  ct σ' H' := D.ct (σ'.set i none) (upd H' a (ExV cls d a))
/-- what 'except x as n' wishes of what the body lets out: it is one of c's -/
def wAsV (K : Fg) (c : Value) (i : Nat) (ts : Addr -> Value -> Option Addr -> TS) (D : Ends) : WX := fun cls d σ H =>
  PySem.W.exmOne K cls c = some true ∧ forall a, H a = none -> ts a cls d (endV i cls d a D) (σ.set i (some (.ref a))) H
section
variable {X : Cx} {n : Str} {c : Value} {i : Nat} {pins : List (Addr × Obj)} {σ : L2.St} {H : Hp} {s : Shared} {D : Ends}
/-- where the suite has come to its end -/
theorem suite_gone {a : Addr} {oe : Obj} {cls : Value} {d : Option Addr} {vs : Array Value} {pos' : Pos} (ok : X.Ok) (hN : X.N.Nodup) (hi : X.N[i]? = some n) (hln : X.env.kindOf n = some .local) (hz : Zc cls d oe) (hd : oe.data = .fields vs)
    (h0 : X.s_0.heap.get? a = none) (hp : forall p, p ∈ X.pn ++ pins -> p.1 ≠ a) (S : Inv (X.suite a ((a, oe) :: (X.pn ++ pins))) [] σ H s) {R : Shared -> Prop} (k : forall s7, Inv X pins (σ.set i none) (upd H a (ExV cls d a)) s7 -> R s7) :
    wpAny (model X.prog X.w) X.A (do bindName X.env n .none; unbindBehindTheSuite X.env n pos') (fun _ s7 => R s7) X.xe s := by
  have J : Inv X ((a, oe) :: pins) σ H s :=
    { ok := ok, os := S.os, bare := S.bare, base := S.base, loc := S.loc, cell := S.cell, free := S.free, freeC := S.freeC, hok := S.hok, len := S.len
      pin := fun p hq => S.pin p (by
        have : p ∈ (a, oe) :: (X.pn ++ pins) := by
          rcases List.mem_append.mp hq with h | h
          · exact List.mem_cons_of_mem _ (List.mem_append_left _ h)
          · rcases List.mem_cons.mp h with h | h
            · rw [h]; exact List.mem_cons_self
            · exact List.mem_cons_of_mem _ (List.mem_append_right _ h)
        exact List.mem_append_left _ this) }
  exact gone_ok J hN hi hln fun s7 J7 => k s7 (Inv.track J7 h0 hp hz hd)

/-- the body has let out u: what is known where the clauses are looked at -/
structure Caught (X : Cx) (pins : List (Addr × Obj)) (W : WX) (u : Value) (s : Shared) where
  a : Addr
  G : Heap
  sI : Shared
  σ : L2.St
  H : Hp
  cls : Value
  d : Option Addr
  eu : u = .ref a
  J : Inv X pins σ H sI
  nb : forall b o, sI.heap.get? b = some o -> b ∉ frs X.stack -> G.get? b = some o
  up : sI.heap.UpToSlots s.heap
  sky : Sky G X.stack a (Zc cls d) X.env.locals s.heap
  na : H a = none
  os : s.os = sI.os
  ag : AllBare s.gens
  w : W cls d σ H
theorem caught_of {W : WX} {u : Value} {s : Shared} (ok : X.Ok) {xe : Value -> Shared -> Prop} (x : XE (X.tr (X.pn ++ pins) xe) W u s) : Nonempty (Caught X pins W u s) := by
  obtain ⟨a, G, sI, p', σ, H, cls, d, e1, J, nb, up, sky, na, os, ag, w⟩ := x
  exact ⟨⟨a, G, sI, σ, H, cls, d, e1, J.ofTry ok, nb, up, sky, na, os, ag, w⟩⟩
theorem Caught.notSI {W : WX} {u : Value} {s : Shared} (z : Caught X pins W u s) (hG : z.G.get? z.a = none) (hfr : z.a ∉ frs X.stack) : z.sI.heap.get? z.a = none := by
  cases e : z.sI.heap.get? z.a with
  | none => rfl
  | some o => have := z.nb _ _ e hfr; rw [hG] at this; cases this
theorem Caught.not0 {W : WX} {u : Value} {s : Shared} (z : Caught X pins W u s) (hx : X.ex = []) (h : z.sI.heap.get? z.a = none) : X.s_0.heap.get? z.a = none := by
  cases e : X.s_0.heap.get? z.a with
  | none => rfl
  | some o =>
    obtain ⟨o', q⟩ := z.J.base.there _ o e (by rw [hx]; exact List.not_mem_nil)
    rw [h] at q; cases q
theorem Caught.notP {W : WX} {u : Value} {s : Shared} (z : Caught X pins W u s) (h : z.sI.heap.get? z.a = none) : forall p, p ∈ X.pn ++ pins -> p.1 ≠ z.a := fun p hp q => by
  have := (z.J.pin p hp).1
  rw [q, h] at this; cases this
section
variable {x : Str} {body suite : List Stmt} {b₀ : Stmt} {np pos pos' : Pos} {tb : WX → TS} {ts : Addr → Value → Option Addr → TS}
theorem ps_try_asV (hs : X.stack = X.env :: X.outer) (hf : X.env.frame = some X.env.locals) (hex : X.ex = []) (hN : X.N.Nodup) (hi : X.N[i]? = some n) (hln : X.env.kindOf n = some .local) (hc : Names X x c)
    (hb : forall (W : WX) (pn : List (Addr × Obj)) (xe : Value → Shared → Prop), Takes (X.tr pn xe) W → PassesOwn (model X.prog X.w) X.A X.env xe → PSs (X.tr pn xe) body (tb W))
    (hsu : forall (a : Addr) (oe : Obj) (cls : Value) (d : Option Addr) (pn : List (Addr × Obj)), Zc cls d oe → (∃ vs, oe.data = .fields vs) → PSs (X.suite a ((a, oe) :: pn)) (b₀ :: suite) (ts a cls d)) :
    PS X (.Try body [.ExceptHandler (some (.Name x np)) (some n) (b₀ :: suite) pos'] [] [] pos) (fun D σ H => tb (wAsV X.K c i ts D) D σ H) := by
  constructor
  intro pins s σ H D I h
  have ok := I.ok
  refine wpAny_Try_except ?_
  refine wpAny_mono ((hb (wAsV X.K c i ts D) (X.pn ++ pins) (fun e z1 => wpAny (model X.prog X.w) X.A (noteFrame e X.env) (fun _ z2 => wpAny (model X.prog X.w) X.A (setFlight e none)
    (fun _ z3 => wpAny (model X.prog X.w) X.A (handleBy e X.env [.ExceptHandler (some (.Name x np)) (some n) (b₀ :: suite) pos']) (SP X pins D) X.xe z3) X.xe z2) X.xe z1) ?_ PassesOwn.looking).run [] s σ H D (I.toTry _) h) ?_ (fun _ _ z => z)
  · intro u s' xx
    obtain ⟨z⟩ := caught_of ok xx
    rw [z.eu]
    obtain ⟨hyes, go⟩ := z.w
    have frm : X.A.frames = some (X.env :: X.outer) := ok.frames.trans (congrArg some hs)
    have sky2 : Sky z.G (X.env :: X.outer) z.a (Zc z.cls z.d) X.env.locals s'.heap := hs ▸ z.sky
    refine Sky.land Zc.steady frm hf sky2 fun h3 fl3 up3 => ?_
    -- the error is no frame's dict
    have away : forall {g : Heap} {o : Obj} {vs : Array Value}, g.FunFrames z.G (X.env :: X.outer) → g.get? z.a = some o → o.data = .fields vs → z.a ∉ frs (X.env :: X.outer) := by
      intro g o vs ff e dd hm
      obtain ⟨_, o2, e2, hno⟩ := ff.mem hm
      rw [e] at e2
      cases e2
      exact hno _ dd
    obtain ⟨o3, v3, at3, z3, d3⟩ := fl3.there
    have out : z.a ∉ frs X.stack := by rw [hs]; exact away fl3.2.2.1 at3 d3
    have notL : z.a ≠ X.env.locals := fun q => out (by rw [hs]; exact List.mem_filterMap.mpr ⟨X.env, List.mem_cons_self, by rw [hf, q]⟩)
    have notF : z.a ∉ X.fs := fun hm => out (by
      obtain ⟨e, he, q⟩ := List.mem_filterMap.mp hm
      rw [hs]
      exact List.mem_filterMap.mpr ⟨e, List.mem_cons_of_mem _ he, q⟩)
    have newI := z.notSI fl3.2.1 out
    have new0 := z.not0 hex newI
    have newP := z.notP newI
    have J3 : Inv X pins z.σ z.H { s' with heap := h3 } := z.J.landed z.nb fl3.1 (z.up.trans up3) z.os z.ag
    have S3 := J3.suite at3 d3 z.na notL notF
    refine wpAny_handleBy_cons (codeAny_handlers_test ?_) (by intro q; cases q)
    have tyA : PySem.W.Looks (model X.prog X.w) h3 (typeOf (.ref z.a)) z.cls := fun A Q E s k q => wpAny_typeOf_ref (k _ _ at3) (by rw [z3.1]; exact q)
    have looks := PySem.W.exm_one (M := model X.prog X.w) S3.kIn tyA hyes
    have named : forall {Q E : Value → Shared → Prop}, Q c { s' with heap := h3 } → wpAny (model X.prog X.w) (X.A.mark (some (.ref z.a))) (eval (.Name x np) X.env) Q E { s' with heap := h3 } := by
      intro Q E q
      rcases hc with ⟨hg, hdbg, hm | ⟨hm, hv, hnn⟩⟩
      · exact ld_glob (X := X.suite z.a ((z.a, o3) :: (X.pn ++ pins))) S3 hg hm q hdbg
      · exact ld_blt (X := X.suite z.a ((z.a, o3) :: (X.pn ++ pins))) S3 hg hm hv q hnn hdbg
    refine named (looks.here (codeAny_handlers_suite_as ?_))
    refine HandSPX.lands_againZ fl3 fun h4 fl4 up4 => ?_
    obtain ⟨o4, v4, at4, z4, d4⟩ := fl4.there
    have J4 : Inv X pins z.σ z.H { s' with heap := h4 } := z.J.landed z.nb fl4.1 ((z.up.trans up3).trans up4) z.os z.ag
    have S4 := J4.suite at4 d4 z.na notL notF
    refine store_ok (X := X.suite z.a ((z.a, o4) :: (X.pn ++ pins))) (v := .ref z.a) S4 hN hi (.inl hln) rfl (fun s5 S5 => ?_) (.inr hln)
    refine wpAny_mono ((hsu z.a o4 z.cls z.d (X.pn ++ pins) z4 ⟨_, d4⟩).run [] s5 _ z.H _ S5 (go z.a z.na)) ?_ (fun _ _ q => q.elim)
    intro f s6 hsp
    cases f with
    | next => exact hsp.elim fun σ6 q => q.elim fun H6 q => suite_gone ok hN hi hln z4 d4 new0 newP q.1 fun s7 J7 => ⟨_, _, J7, q.2⟩
    | brk => exact hsp.elim fun σ6 q => q.elim fun H6 q => suite_gone ok hN hi hln z4 d4 new0 newP q.1 fun s7 J7 => ⟨_, _, J7, q.2⟩
    | cont => exact hsp.elim fun σ6 q => q.elim fun H6 q => suite_gone ok hN hi hln z4 d4 new0 newP q.1 fun s7 J7 => ⟨_, _, J7, q.2⟩
    | ret u =>
      obtain ⟨v6, σ6, H6, q1, q2, q3⟩ := hsp
      exact suite_gone ok hN hi hln z4 d4 new0 newP q1 fun s7 J7 => ⟨v6, _, _, J7, q2, q3⟩
  · intro f s1 hsp
    cases f with
    | next => exact hsp.elim fun σ' q => q.elim fun H' q => wpAny_execs_nil ⟨σ', H', q.1.ofTry ok, q.2⟩
    | brk => exact hsp.elim fun σ' q => q.elim fun H' q => ⟨σ', H', q.1.ofTry ok, q.2⟩
    | cont => exact hsp.elim fun σ' q => q.elim fun H' q => ⟨σ', H', q.1.ofTry ok, q.2⟩
    | ret u =>
      obtain ⟨v, σ', H', q1, q2⟩ := hsp
      exact ⟨v, σ', H', q1.ofTry ok, q2⟩
end
end
end Pu

set_option Elab.async false
set_option linter.all false
set_option maxRecDepth 100000
namespace Pu
open Pu.Rp (rp)
open PySem PySem.Spec PyProof.Rows L2
/-! an error that is kept, as a value: by the name of its class -/
structure Xn where
  c : String
  deriving DecidableEq
def isC (K : Fg) (c : String) (C : Addr) : Prop := PySem.W.nsIn K mainGlobals c = some (some (.ref C))
theorem isC.uniq {K : Fg} {c : String} {C D : Addr} (h : isC K c C) (h' : isC K c D) : C = D := by
  unfold isC at h h'
  rw [h] at h'
  cases h'
  rfl
instance : Rp Xn where
  rp K H v x := exists a C, v = .ref a ∧ isC K x.c C ∧ H a = some (ExV (.ref C) none a)
  mono e := fun ⟨a, C, h1, h2, h3⟩ => ⟨a, C, h1, h2, e _ _ h3⟩
/-- one of two kinds -/
instance {A B : Type} [Rp A] [Rp B] : Rp (A ⊕ B) where
  rp K H v x := match x with
    | .inl a => rp K H v a
    | .inr b => rp K H v b
  mono {K H H' v x} e := fun h => by
    cases x with
    | inl a => exact Rp.mono (x := a) e h
    | inr b => exact Rp.mono (x := b) e h
/-- isinstance(e, c), e a kept error -/
def rIsV (K : Fg) : List V → Hp → VK → Prop := fun xs H Q => ∃ (a D : Addr) (c : V) (cv : Value) (b : Bool), xs = [.ref a, c] ∧ H a = some (ExV (.ref D) none a) ∧ ExcC K D ∧ (∀ u, RelV c u → u = cv) ∧ PySem.W.kitOne K (.ref D) cv = some b ∧ Q (.bl b) H
theorem call_isV {X : Cx} : CallR X (.builtin "isinstance") (rIsV X.K) := by
  intro pins s σ H xs us Q I r h
  obtain ⟨a, D, c, cv, b, rfl, ha, C, hcv, e, q⟩ := h
  obtain ⟨u1, u2, rfl, r1, r2⟩ := vals2 r
  cases (show u1 = Value.ref a from r1)
  rw [hcv _ r2]
  obtain ⟨⟨oe, vs, hg, ⟨z1, z2⟩, hd⟩, _, _⟩ := I.hok a _ ha
  have J : PySem.W.InstAt s.heap a oe D none := by
    obtain ⟨oc, od, oda, osl⟩ := oe
    dsimp only at z1 z2 hd
    subst z1 z2 hd
    exact ⟨hg, rfl, rfl, trivial⟩
  exact PySem.W.kia_one (PySem.W.handS_kitx_exc C.hg C.hk C.hs C.hd C.ha C.hn C.ht C.hm) I.kIn J e (fun z => nomatch z) fun tk => ⟨.bl b, H, I.tok tk, rfl, q⟩
theorem isV_K {X : Cx} {K : Fg} (h : X.K = K) : CallR X (.builtin "isinstance") (rIsV K) := h ▸ call_isV
/-- xs.count(True), xs truths -/
def eqb (k : Bool) (v : Value) : Bool := match v with
  | .bool n => n == k
  | _ => false
def rCntB (K : Fg) : V → List V → Hp → VK → Prop := fun x xs H Q => ∃ (p : Addr) (ns : List Bool) (k : Bool), x = .ref p ∧ xs = [.bl k] ∧ SqL K H p (ns.map V.bl) ∧ Q (.int (ns.count k : Nat)) H
theorem vals_bl : forall {ns : List Bool} {us : List Value}, Vals (ns.map V.bl) us -> us = ns.map Value.bool
  | [], us, r => by cases r; rfl
  | n :: ns, us, r => by
    cases r with
    | cons h t =>
      rw [vals_bl t, List.map_cons]
      rw [show _ = Value.bool n from h]
theorem eqb_count (k : Bool) : forall ns : List Bool, (ns.map Value.bool).countP (eqb k) = ns.count k
  | [] => rfl
  | n :: ns => by
    rw [List.map_cons, List.countP_cons, List.count_cons, eqb_count k ns]
    rfl
theorem mt_countB {X : Cx} : MtR X "list.count" (rCntB X.K) := by
  intro pins s σ H x xs v us Q I rx rxs h
  obtain ⟨p, ns, k, rfl, rfl, hs, q⟩ := h
  cases (show v = Value.ref p from rx)
  obtain ⟨u, rfl, ru⟩ := rxs.one
  cases (show u = Value.bool k from ru)
  obtain ⟨its, rv, ⟨⟨cls, dd, data, sl⟩, n, ho, hc, hdn, hd⟩, hlen⟩ := I.list hs
  dsimp only at hc hd
  subst hc hd
  have hv := vals_bl rv
  refine call_meets PySem.F.slot_list_count ⟨_, ho, rfl⟩ PySem.F.entry_list_count (PySem.F.args_list_count_2 _ _) (SeqAt.list_countAt p its.toArray n dd sl (.bool k) (eqb k)) ⟨ho, fun y hy => ?_, ?_⟩
  · have hy' : y ∈ its := by simpa using hy
    rw [hv] at hy'
    obtain ⟨b, _, rfl⟩ := List.mem_map.mp hy'
    exact SeqAt.EqAt.bool_bool b k
  · refine ⟨.int (ns.count k : Nat), H, I.tok _, ⟨s.toks, ?_⟩, q⟩
    rw [← eqb_count, ← hv]
theorem mtcB_K {X : Cx} {K : Fg} (h : X.K = K) : MtR X "list.count" (rCntB K) := h ▸ mt_countB
end Pu

set_option Elab.async false
set_option linter.all false
set_option maxRecDepth 100000
namespace Pu
open Pu.Rp (rp)
open PySem PySem.Spec PyProof.Rows L2
/-! defs that may raise: .inr is the name of the error's class -/
def PSx {R : Type} [Rp R] (K : Fg) (m : List V -> Hp -> Option (R ⊕ String) -> Prop) : Sp := fun vs H Q E => exists r, m vs H (some r) ∧ (forall x, r = .inl x -> forall w H2, Gx H H2 -> rp K H2 w x -> Q w H2) ∧ (forall c, r = .inr c -> forall C H2, isC K c C -> Gx H H2 -> E (.ref C) none H2)
section
variable {K : Fg} {A B C D I : Type} [Rp A] [Rp B] [Rp C] [Rp D] [Rp I]
variable {σ : L2.St} {G G' H H' : Hp} {L L1 L2' : Led} {M : List Addr} {te ta tb tc : TE} {tt tu : TT} {X : Ends} {t1 t2 u : TS} {i j : Nat} {W : String -> Hp -> Prop}
def EvR (K : Fg) (te : TE) (σ : L2.St) (H : Hp) (W : String -> Hp -> Prop) (m : Option (A ⊕ String)) : Prop :=
  forall o, m = some o -> forall H1, Gx H H1 -> forall Q : VK, (forall x v H2, o = .inl x -> Gx H1 H2 -> rp K H2 v x -> Q v H2) -> (forall c H2, o = .inr c -> Gx H1 H2 -> W c H2) -> te σ H1 Q
/-- what a call within a try, or within a def that may raise, wishes -/
abbrev WC (K : Fg) (E : L2.St -> XK) (σ : L2.St) : String -> Hp -> Prop := fun c H2 => forall C, isC K c C -> E σ (.ref C) none H2
theorem er_call {m : List V -> Hp -> Option (A ⊕ String) -> Prop} {o : Option (A ⊕ String)} {t : TA} {E : L2.St -> XK} (h : EvM t σ H m o) : EvR K (tCallS (PSx K m) E t) σ H (WC K E σ) o := fun r hr H1 e Q q w =>
  h r hr H1 e _ fun vs H2 g2 hm => ⟨r, hm, fun x hx v H3 g3 r3 => q x v H3 hx (g2.trans g3) r3, fun c hc C H3 iC g3 => w c H3 hc (g2.trans g3) C iC⟩
def getL {A : Type} : A ⊕ String -> Option A
  | .inl x => some x
  | .inr _ => none
/-- where nothing is raised -/
theorem eb_callX {m : List V -> Hp -> Option (A ⊕ String) -> Prop} {o : Option (A ⊕ String)} {t : TA} {E : L2.St -> XK} (h : EvM t σ H m o) : EvB K (tCallS (PSx K m) E t) σ H (o.bind getL) := fun x hx H1 e Q q => by
  obtain ⟨r, hr, hx⟩ := bnd hx
  cases r with
  | inr c => cases hx
  | inl y =>
    cases hx
    exact h _ hr H1 e _ fun vs H2 g2 hm => ⟨_, hm, fun x hx v H3 g3 r3 => by cases hx; exact q v H3 (g2.trans g3) r3, fun c hc => nomatch hc⟩
theorem EvB.toR {m : Option A} (h : EvB K te σ H m) : EvR K te σ H W (m.map Sum.inl) := fun o ho H1 e Q q _ => by
  obtain ⟨x, hx, rfl⟩ := Option.map_eq_some_iff.mp ho
  exact h x hx H1 e Q fun v H2 g r => q x v H2 rfl g r
def fMapR {A B : Type} (f : A -> Option B) (m : Option (A ⊕ String)) : Option (B ⊕ String) := m.bind fun o => match o with
  | .inl x => (f x).map Sum.inl
  | .inr c => some (.inr c)
theorem er_map {f : A -> Option B} (hf : forall {K : Fg} {H : Hp} {v : V} {a : A} {b : B}, f a = some b -> rp K H v a -> rp K H v b) {m : Option (A ⊕ String)} (h : EvR K te σ H W m) : EvR K te σ H W (fMapR f m) := fun o ho H1 e Q q w => by
  obtain ⟨r, hr, ho⟩ := bnd ho
  cases r with
  | inl x =>
    obtain ⟨y, hy, rfl⟩ := Option.map_eq_some_iff.mp ho
    exact h _ hr H1 e Q (fun x' v H2 hx g rr => by cases hx; exact q y v H2 rfl g (hf hy rr)) (fun c H2 hc => nomatch hc)
  | inr c =>
    cases ho
    exact h _ hr H1 e Q (fun x' v H2 hx => nomatch hx) (fun c' H2 hc g => by cases hc; exact w c H2 rfl g)
def oPairR {A B : Type} (ma : Option A) (mb : Option (B ⊕ String)) : Option ((A × B) ⊕ String) := ma.bind fun a => mb.bind fun o => match o with
  | .inl b => some (.inl (a, b))
  | .inr c => some (.inr c)
theorem er_pair {ma : Option A} {mb : Option (B ⊕ String)} (ha : EvB K ta σ H ma) (hb : EvR K tb σ H W mb) : EvR K (tTup (tCons ta (tCons tb tNil))) σ H W (oPairR ma mb) := fun o ho H1 e Q q w => by
  obtain ⟨a, e1, ho⟩ := bnd ho
  obtain ⟨r, e2, ho⟩ := bnd ho
  refine ha a e1 H1 e _ fun v H2 g2 r2 => hb r e2 H2 (e.trans g2) _ (fun x z H3 hx g3 r3 => ?_) (fun c H3 hc g3 => ?_)
  · subst hx
    cases ho
    refine ⟨by show 2 ≤ sizeLine; decide, fun p hp => ?_⟩
    exact q _ _ _ rfl ((g2.trans g3).trans (Gx.new hp)) ⟨p, v, z, rfl, upd_same, Rp.mono (g3.trans (Gx.new hp)) r2, Rp.mono (Gx.new hp) r3⟩
  · subst hc
    cases ho
    exact w c H3 rfl (g2.trans g3)
/-! statements -/
theorem st_asgR {m : Option (A ⊕ String)} {o : A ⊕ String} (h : EvR K te σ H W m) (hm : m = some o) (k : forall x v H2, o = .inl x -> Gx H H2 -> rp K H2 v x -> u X (σ.set i (some v)) H2) (w : forall c H2, o = .inr c -> Gx H H2 -> W c H2) : tSeq (tAsg te (gName i)) u X σ H :=
  h o hm H Gx.rfl _ (fun x v H2 hx g r => k x v H2 hx g r) w
theorem st_dropR {m : Option (A ⊕ String)} {o : A ⊕ String} (h : EvR K te σ H W m) (hm : m = some o) (k : forall x H2, o = .inl x -> Gx H H2 -> u X σ H2) (w : forall c H2, o = .inr c -> Gx H H2 -> W c H2) : tSeq (tDrop te) u X σ H :=
  h o hm H Gx.rfl _ (fun x v H2 hx g r => k x H2 hx g) w
theorem st_retR {m : Option (A ⊕ String)} {o : A ⊕ String} (h : EvR K te σ H W m) (hm : m = some o) (k : forall x v H2, o = .inl x -> Gx H H2 -> rp K H2 v x -> X.rt v H2) (w : forall c H2, o = .inr c -> Gx H H2 -> W c H2) : tSeq (tRet te) u X σ H :=
  h o hm H Gx.rfl _ k w
/-- a name for what is read, where nothing is one's own to change -/
theorem st_asgE {m : Option A} {x : A} (h : EvB K te σ H m) (hm : m = some x) (k : forall v H2, Gx H H2 -> rp K H2 v x -> u X (σ.set i (some v)) H2) : tSeq (tAsg te (gName i)) u X σ H := h x hm H Gx.rfl _ k
/-! things of any kind -/
theorem x_dct : EvB (A := Dy) K tDNewK σ H (some Dy.dct) := fun x hx H1 e Q q => by
  cases hx
  intro d hd
  refine q _ _ (Gx.new hd) ?_
  show rpY K _ Dy.dct _
  rw [rpY]
  exact ⟨d, rfl, upd_same⟩
theorem x_lenY {ma : Option Dy} (ha : EvB K ta σ H ma) : EvB K (tCB (fun xs H Q => ∃ p ys, xs = [.ref p] ∧ (SqL K H p ys ∨ SqT K H p ys) ∧ Q (.int ys.length) H) (tCons ta tNil)) σ H (o1 yLenT ma) :=
  call1 (fun H v x c r hc Q q => by
    cases x <;> cases hc
    · have r' : rpY K H (.tup _) v := r
      rw [rpY] at r'
      obtain ⟨p, vs, rfl, h2, h3⟩ := r'
      refine ⟨p, vs, rfl, .inr (SqT.of h2), ?_⟩
      rw [(rpYs_al h3).len]
      exact q _ H Gx.rfl rfl
    · have r' : rpY K H (.lst _) v := r
      rw [rpY] at r'
      obtain ⟨p, vs, rfl, h2, h3⟩ := r'
      refine ⟨p, vs, rfl, .inl (SqL.of h2), ?_⟩
      rw [(rpYs_al h3).len]
      exact q _ H Gx.rfl rfl) ha
theorem x_conv {f : A -> B} (hf : forall {K : Fg} {H : Hp} {v : V} {a : A}, rp K H v a -> rp K H v (f a)) {m : Option A} (h : EvB K te σ H m) : EvB K te σ H (m.map f) := fun x hx H1 e Q q => by
  obtain ⟨a, ha, rfl⟩ := Option.map_eq_some_iff.mp hx
  exact h a ha H1 e Q fun v H2 g r => q v H2 g (hf r)
theorem eo_conv {f : A -> B} (hf : forall {K : Fg} {H : Hp} {v : V} {a : A}, rp K H v a -> rp K H v (f a)) {m : Option A} (h : EvO K te σ G H m) : EvO K te σ G H (m.map f) := fun x hx G1 H1 L g e a Q q => by
  obtain ⟨y, hy, rfl⟩ := Option.map_eq_some_iff.mp hx
  exact h y hy G1 H1 L g e a Q fun v G2 H2 g2 e2 a2 r => q v G2 H2 g2 e2 a2 (hf r)
def toYT {A : Type} [Rp A] [ToY A] (x : Tl A) : Tl Dy := ⟨x.l.map ToY.to⟩
def toYL {A : Type} [Rp A] [ToY A] (x : List A) : List Dy := x.map ToY.to
theorem c_toYT [ToY A] {K : Fg} {H : Hp} {v : V} {a : Tl A} (r : rp K H v a) : rp K H v (toYT a) := by
  obtain ⟨p, vs, h1, h2, h3⟩ := r
  exact ⟨p, vs, h1, h2, al_toY h3⟩
theorem c_toYL [ToY A] {K : Fg} {H : Hp} {v : V} {a : List A} (r : rp K H v a) : rp K H v (toYL a) := by
  obtain ⟨p, vs, h1, h2, h3⟩ := r
  exact ⟨p, vs, h1, h2, al_toY h3⟩
theorem c_toY [ToY A] {K : Fg} {H : Hp} {v : V} {a : A} (r : rp K H v a) : rp K H v (ToY.to a : Dy) := ToY.ok r
/-! what is one's own: things that hold lists, too -/
theorem At.both {p : Addr} {o : HO} (a : At G H L) (hp : H p = none) : At (upd G p o) (upd H p o) L := by
  refine ⟨fun b u h => ?_, a.nd, fun q hq => ?_⟩
  · by_cases e : b = p
    · rw [e, upd_same] at h
      rw [e, upd_same]; exact h
    · rw [upd_ne e] at h
      rw [upd_ne e]; exact a.ex b u h
  · obtain ⟨h1, h2, h3⟩ := a.led q hq
    have ne : q.1 ≠ p := fun e => by rw [e, hp] at h1; cases h1
    exact ⟨by rw [upd_ne ne]; exact h1, by rw [upd_ne ne]; exact h2, h3⟩
theorem At.gn {p : Addr} (a : At G H L) (hp : H p = none) : G p = none := a.ex.back hp
def EvLO (K : Fg) (t : TA) (σ : L2.St) (G H : Hp) (m : Option (List A)) : Prop :=
  forall xs, m = some xs -> forall G1 H1 L, Gx G G1 -> Gx H H1 -> At G1 H1 L -> forall Q : List V -> Hp -> Prop, (forall vs G2 H2, Gx G1 G2 -> Gx H1 H2 -> At G2 H2 L -> Al (rp K G2) vs xs -> Q vs H2) -> t σ H1 Q
theorem lo_nil : EvLO (A := A) K tNil σ G H (some []) := fun xs hx G1 H1 L g e a Q q => by
  cases hx
  exact q [] G1 H1 Gx.rfl Gx.rfl a trivial
theorem lo_cons {tr : TA} {ma : Option A} {mr : Option (List A)} (ha : EvO K ta σ G H ma) (hr : EvLO K tr σ G H mr) : EvLO K (tCons ta tr) σ G H (o2 fCons ma mr) := fun xs hx G1 H1 L g e a Q q => by
  obtain ⟨x, y, e1, e2, e3⟩ := o2s hx
  cases e3
  exact ha x e1 G1 H1 L g e a _ fun v G2 H2 g2 h2 a2 r2 => hr y e2 G2 H2 L (g.trans g2) (e.trans h2) a2 _ fun vs G3 H3 g3 h3 a3 r3 => q (v :: vs) G3 H3 (g2.trans g3) (h2.trans h3) a3 ⟨Rp.mono g3 r2, r3⟩
theorem eo_tup {tr : TA} {mr : Option (List A)} (h : EvLO K tr σ G H mr) : EvO K (tTup tr) σ G H (o1 fTup mr) := fun x hx G1 H1 L g e a Q q => by
  obtain ⟨xs, e1, e3⟩ := o1s hx
  obtain ⟨b, e4, e5⟩ := Option.map_eq_some_iff.mp e3
  obtain ⟨rfl, hz⟩ := szOks e4
  subst e5
  refine h b e1 G1 H1 L g e a _ fun vs G2 H2 g2 h2 a2 r2 => ⟨by rw [r2.len]; exact Evl.sz_of hz, fun p hp => ?_⟩
  have gp := Gx.new (o := HO.tup vs) (a2.gn hp)
  exact q _ _ _ (g2.trans gp) (h2.trans (Gx.new hp)) (a2.both hp) ⟨p, vs, rfl, upd_same, r2.mono fun _ _ => Rp.mono gp⟩
theorem eo_lst {tr : TA} {mr : Option (List A)} (h : EvLO K tr σ G H mr) : EvO K (tLst tr) σ G H (o1 szOk mr) := fun x hx G1 H1 L g e a Q q => by
  obtain ⟨xs, e1, e3⟩ := o1s hx
  obtain ⟨rfl, hz⟩ := szOks e3
  refine h x e1 G1 H1 L g e a _ fun vs G2 H2 g2 h2 a2 r2 => ⟨by rw [r2.len]; exact Evl.sz_of hz, fun p hp => ?_⟩
  have gp := Gx.new (o := HO.lst vs) (a2.gn hp)
  exact q _ _ _ (g2.trans gp) (h2.trans (Gx.new hp)) (a2.both hp) ⟨p, vs, rfl, upd_same, r2.mono fun _ _ => Rp.mono gp⟩
theorem eo_cat {ma mb : Option (List A)} (ha : EvO K ta σ G H ma) (hb : EvO K tb σ G H mb) : EvO K (tOp rCat ta tb) σ G H (o2 fCat ma mb) := fun x hx G1 H1 L g e a0 Q q => by
  obtain ⟨a, b, e1, e2, e3⟩ := o2s hx
  obtain ⟨rfl, hz⟩ := szOks e3
  refine ha a e1 G1 H1 L g e a0 _ fun v G2 H2 g2 h2 a2 r2 => hb b e2 G2 H2 L (g.trans g2) (e.trans h2) a2 _ fun w G3 H3 g3 h3 a3 r3 => ?_
  obtain ⟨p, vs, rfl, k2, k3⟩ := Rp.mono g3 r2
  obtain ⟨p2, vs2, rfl, k4, k5⟩ := r3
  refine ⟨p, p2, vs, vs2, rfl, rfl, a3.ex _ _ k2, a3.ex _ _ k4, ?_, fun p' hp => ?_⟩
  · rw [k3.len, k5.len, ← List.length_append]
    exact Evl.sz_of hz
  · have gp := Gx.new (o := HO.lst (vs ++ vs2)) (a3.gn hp)
    exact q _ _ _ ((g2.trans g3).trans gp) ((h2.trans h3).trans (Gx.new hp)) (a3.both hp) ⟨p', _, rfl, upd_same, (k3.app k5).mono fun _ _ => Rp.mono gp⟩
end
end Pu

set_option Elab.async false
set_option linter.all false
set_option maxRecDepth 100000
namespace Pu
open Pu.Rp (rp)
open PySem PySem.Spec PyProof.Rows L2
section
variable {K : Fg} {A B C D I : Type} [Rp A] [Rp B] [Rp C] [Rp D] [Rp I]
variable {σ : L2.St} {G G' H H' : Hp} {L L1 L2' : Led} {M : List Addr} {te ta tb tc : TE} {tt tu : TT} {X : Ends} {t1 t2 u : TS} {i j : Nat} {W : String -> Hp -> Prop}
theorem eo_catT {ma mb : Option (Tl A)} (ha : EvO K ta σ G H ma) (hb : EvO K tb σ G H mb) : EvO K (tOp (rCatA K) ta tb) σ G H (o2 fCatT ma mb) := fun x hx G1 H1 L g e a0 Q q => by
  obtain ⟨a, b, e1, e2, e3⟩ := o2s hx
  obtain ⟨y, e4, e5⟩ := Option.map_eq_some_iff.mp e3
  obtain ⟨rfl, hz⟩ := szOks e4
  subst e5
  refine ha a e1 G1 H1 L g e a0 _ fun v G2 H2 g2 h2 a2 r2 => hb b e2 G2 H2 L (g.trans g2) (e.trans h2) a2 _ fun w G3 H3 g3 h3 a3 r3 => ?_
  obtain ⟨p, vs, rfl, k2, k3⟩ := Rp.mono g3 r2
  obtain ⟨p2, vs2, rfl, k4, k5⟩ := r3
  have k6 := k3.app k5
  refine ⟨p, p2, vs, vs2, rfl, rfl, SqT.of (a3.ex _ _ k2), SqT.of (a3.ex _ _ k4), ?_, fun h0 => q _ _ _ (g2.trans g3) (h2.trans h3) a3 ⟨p2, vs2, rfl, k4, ?_⟩, fun _ h0 => q _ _ _ (g2.trans g3) (h2.trans h3) a3 ⟨p, vs, rfl, k2, ?_⟩, fun _ _ p' hp => ?_⟩
  · rw [k3.len, k5.len, ← List.length_append]; exact Evl.sz_of hz
  · rw [h0] at k6
    exact k6
  · rw [h0, List.append_nil] at k6
    exact k6
  · have gp := Gx.new (o := HO.tup (vs ++ vs2)) (a3.gn hp)
    exact q _ _ _ ((g2.trans g3).trans gp) ((h2.trans h3).trans (Gx.new hp)) (a3.both hp) ⟨p', _, rfl, upd_same, k6.mono fun _ _ => Rp.mono gp⟩
/-- a comprehension over a list as it stands, whose elements may hold lists -/
theorem x_lcO {vs : List Nat} {mx : Option (List I)} {c : I -> Option Bool} {f : I -> Option A} (hi : EvJ K wi σ [] H mx) (hb : j ∈ vs)
    (ht : forall x v H', Gx H H' -> rp K H' v x -> EvT tt ((wipe σ vs).set j (some v)) H' (c x)) (he : forall x v G' H', Gx H G' -> Gx G' H' -> rp K G' v x -> EvO K te ((wipe σ vs).set j (some v)) G' H' (f x)) :
    EvN K (tLc wi (gName j) tt te vs) σ H (oComp c f mx) := fun r hr H1 e1 Q q => by
  cases mx with
  | none => cases hr
  | some xs =>
    have hr' : (lim 100000 xs).bind (comp c f) = some r := hr
    unfold lim at hr'
    by_cases hz : xs.length ≤ 100000
    · rw [if_pos hz] at hr'
      have hr2 : comp c f xs = some r := hr'
      refine hi xs rfl H1 e1 _ fun J H2 e2 wk => ?_
      rw [mns_nil] at wk
      intro D hD
      obtain ⟨go, stop, yld⟩ := wk
      -- what is made so far stands apart from D
      refine ⟨fun i m Hc => m = xs.length - i ∧ i ≤ xs.length ∧ exists Gc vs' ys r', Gx H2 Gc ∧ At Gc Hc [(D, HO.lst vs')] ∧ Al (rp K Gc) vs' ys ∧ ys.length ≤ i ∧ comp c f (xs.drop i) = some r' ∧ r = ys ++ r',
        ⟨xs.length, by simp, Nat.zero_le _, H2, [], [], r, Gx.rfl, (At.nil H2).add hD trivial, trivial, Nat.le_refl _, hr2, rfl⟩, ?_⟩
      rintro i m Hc ⟨rfl, hle, Gc, vs', ys, r', gG, AD, ral, hlen, hcomp, rfl⟩
      have gc : Gx H2 Hc := gG.trans AD.ex
      by_cases hlt : i < xs.length
      · refine .inr ⟨go i Hc hlt gc, fun Hn => i + 1 ≤ xs.length ∧ exists Gc vs' ys' r'', Gx H2 Gc ∧ At Gc Hn [(D, HO.lst vs')] ∧ Al (rp K Gc) vs' ys' ∧ ys'.length ≤ i + 1 ∧ comp c f (xs.drop (i + 1)) = some r'' ∧ ys ++ r' = ys' ++ r'',
          fun Hn hn => ⟨xs.length - (i + 1), by omega, rfl, hn.1, hn.2⟩, fun v Hy hy => ?_⟩
        have hx := List.getElem?_eq_getElem hlt
        obtain ⟨rfl, ry⟩ := yld i Hc v Hy _ gc hx hy
        refine ⟨(wipe_sets hb).trans (wipe_wipe σ vs), ?_⟩
        have g0 : Gx H Gc := (e1.trans e2).trans gG
        rw [List.drop_eq_getElem_cons hlt] at hcomp
        rcases comp_cons hcomp with ⟨hc, y, r2, hf, h2, rfl⟩ | ⟨hc, h2⟩
        · refine ht _ v Hy (g0.trans AD.ex) (Rp.mono (gG.trans AD.ex) ry) true hc Hy Gx.rfl _ fun H3 g3 => ite_tt ?_
          refine he _ v Gc Hy g0 AD.ex (Rp.mono gG ry) y hf Gc H3 [(D, HO.lst vs')] Gx.rfl g3 (AD.grow g3) _ fun u G4 H4 g4 e4 A4 r4 => ?_
          refine ⟨vs', (A4.led (D, HO.lst vs') (List.Mem.head _)).1, ?_, hlt, G4, vs' ++ [u], ys ++ [y], r2, gG.trans g4, At.set (L1 := []) (L2 := []) A4 trivial, (ral.mono fun _ _ => Rp.mono g4).app (Al.one r4), ?_, h2, by simp⟩
          · rw [ral.len]; exact Evl.sz_lt (by omega)
          · rw [List.length_append]; simp only [List.length_cons, List.length_nil]; omega
        · refine ht _ v Hy (g0.trans AD.ex) (Rp.mono (gG.trans AD.ex) ry) false hc Hy Gx.rfl _ fun H3 g3 => ite_ff ?_
          exact ⟨hlt, Gc, vs', ys, r', gG, AD.grow g3, ral, by omega, h2, rfl⟩
      · have hi : i = xs.length := by omega
        subst hi
        rw [List.drop_length] at hcomp
        cases hcomp
        rw [List.append_nil] at *
        exact .inl ⟨stop Hc gc, q D vs' Hc (e2.back hD) (e2.trans gc) (AD.led (D, HO.lst vs') (List.Mem.head _)).1 (ral.mono fun _ _ => Rp.mono AD.ex)⟩
    · rw [if_neg hz] at hr'
      cases hr'
/-- isinstance(e, c), e a kept error of one of some classes -/
def fIsV (rs : List String) (b : String -> Bool) (e : Dy ⊕ Xn) : Option Bool := match e with
  | .inl _ => none
  | .inr x => if x.c ∈ rs then some (b x.c) else none
theorem x_isV {rs : List String} {b : String -> Bool} {cv : V} {uu : Value} {ma : Option (Dy ⊕ Xn)} (hcv : forall z, RelV cv z -> z = uu) (hk : forall c, c ∈ rs -> forall C, isC K c C -> ExcC K C ∧ PySem.W.kitOne K (.ref C) uu = some (b c))
    (ha : EvB K ta σ H ma) : EvB K (tCB (rIsV K) (tCons ta (tCons (tC cv) tNil))) σ H (o1 (fIsV rs b) ma) := fun x hx H1 e Q q => by
  obtain ⟨y, e1, e3⟩ := o1s hx
  cases y with
  | inl _ => cases e3
  | inr y =>
    unfold fIsV at e3
    split at e3
    · cases e3
    · rename_i z hz
      cases hz
      split at e3
      · rename_i hm
        cases e3
        refine ha _ e1 H1 e _ fun v H2 g2 r2 => ?_
        obtain ⟨a, C, rfl, iC, h2⟩ := r2
        obtain ⟨h3, h4⟩ := hk _ hm C iC
        exact ⟨a, C, cv, uu, b y.c, rfl, h2, h3, hcv, h4, q _ H2 g2 rfl⟩
      · cases e3
/-- xs.count(True) -/
def fCntB (x : List Bool) (k : Bool) : Option Int := some (x.count k : Nat)
theorem x_cntB {ma : Option (List Bool)} {mb : Option Bool} (ha : EvB K ta σ H ma) (hb : EvB K tb σ H mb) : EvB K (tBM K "list" (rCntB K) ta (tCons tb tNil)) σ H (o2 fCntB ma mb) := fun x hx H1 e Q q => by
  obtain ⟨a, b, e1, e2, e3⟩ := o2s hx
  cases e3
  refine ha a e1 H1 e _ fun v H2 g2 r2 => ?_
  obtain ⟨p, vs, rfl, h2, h3⟩ := r2
  refine ⟨Or.inl ⟨rfl, vs, SqL.of h2⟩, hb b e2 H2 (e.trans g2) _ fun w H3 g3 r3 => ?_⟩
  rw [al_bl h3] at h2
  exact ⟨p, a, b, rfl, by rw [show w = V.bl b from r3], SqL.of (g3 _ _ h2), q _ H3 (g2.trans g3) rfl⟩
/-- e is not None -/
def fNotNU (_ : Unit) : Option Bool := some false
theorem x_notNU {ma : Option Unit} (ha : EvB K ta σ H ma) : EvB K (tOp (fun x y H Q => y = .non ∧ Q (.bl (!decide (x = .non))) H) ta (tC .non)) σ H (o1 fNotNU ma) := fun x hx H1 e Q q => by
  obtain ⟨a, e1, e3⟩ := o1s hx
  cases e3
  refine ha a e1 H1 e _ fun v H2 g2 r2 => ⟨rfl, ?_⟩
  rw [show v = V.non from r2]
  exact q _ H2 g2 rfl
end
/-- a list of things of any kind as a list of a known kind -/
def yPairI : Dy -> Option (Int × Int)
  | .tup [.int a, .int b] => some (a, b)
  | _ => none
theorem y_pairI {K : Fg} {H : Hp} {v : V} {a : Dy} {b : Int × Int} (h : yPairI a = some b) (r : rp K H v a) : rp K H v b := by
  unfold yPairI at h
  split at h
  · cases h
    obtain ⟨p, u, w, h1, h2, h3, h4⟩ := y_pair (b := (Dy.int _, Dy.int _)) rfl r
    have h3' : rpY K H (.int _) u := h3
    have h4' : rpY K H (.int _) w := h4
    rw [rpY] at h3' h4'
    exact ⟨p, u, w, h1, h2, h3', h4'⟩
  · cases h
def yPairs (d : Dy) : Option (List (Int × Int)) := (yLst d).bind (mapO yPairI)
theorem y_pairs {K : Fg} {H : Hp} {v : V} {a : Dy} {b : List (Int × Int)} (h : yPairs a = some b) (r : rp K H v a) : rp K H v b := by
  unfold yPairs at h
  obtain ⟨xs, h1, h2⟩ := bnd h
  obtain ⟨p, vs, e1, e2, e3⟩ := y_lst h1 r
  exact ⟨p, vs, e1, e2, al_mapO (fun h r => y_pairI h r) h2 e3⟩
end Pu

set_option Elab.async false
set_option linter.all false
set_option maxRecDepth 100000
namespace Pu
open Pu.Rp (rp)
open PySem PySem.Spec PyProof.Rows L2
section
variable {K : Fg} {A B : Type} [Rp A] [Rp B]
variable {σ : L2.St} {G H : Hp} {L : Led} {te : TE} {X : Ends} {u : TS} {i j : Nat}
/-- what comes of a call that may raise: its answer, or its error's class -/
def onR {A B : Type} (o : A ⊕ String) (f : A -> Option B) (g : String -> Option B) : Option B := match o with
  | .inl x => f x
  | .inr c => g c
theorem onRl {A B : Type} {x : A} {f : A -> Option B} {g : String -> Option B} {r : Option B} (h : onR (.inl x) f g = r) : f x = r := h
theorem onRr {A B : Type} {c : String} {f : A -> Option B} {g : String -> Option B} {r : Option B} (h : onR (A := A) (.inr c) f g = r) : g c = r := h
def okc {B : Type} (rs : List String) (c : String) (k : Option B) : Option B := if c ∈ rs then k else none
theorem okcs {B : Type} {rs : List String} {c : String} {k : Option B} {r : B} (h : okc rs c k = some r) : c ∈ rs ∧ k = some r := by
  unfold okc at h
  split at h
  · exact ⟨by assumption, h⟩
  · cases h
/-- x = e, e the error that is handled -/
theorem st_suiteV {a : Addr} {cls : Value} {d : Option Addr} (hs : σ[i]? = some (some (.ref a))) (k : u X ((σ.set j (some (.ref a))).set i none) (upd H a (ExV cls d a))) : tSeq (tAsg (tVar i) (gName j)) tNext (endV i cls d a { X with nx := u X }) σ H := ⟨_, hs, k⟩
theorem heapX {R : Type} [Rp R] {Q : VK} {E : XK} {r : R ⊕ String} {H : Hp} (qn : forall x, r = .inl x -> forall w H2, Gx H H2 -> rp K H2 w x -> Q w H2) (qx : forall c, r = .inr c -> forall C H2, isC K c C -> Gx H H2 -> E (.ref C) none H2) :
    exists H0, Gx H0 H ∧ (forall x, r = .inl x -> forall w H2, Gx H0 H2 -> rp K H2 w x -> Q w H2) ∧ (forall c, r = .inr c -> forall C H2, isC K c C -> Gx H0 H2 -> E (.ref C) none H2) := ⟨H, Gx.rfl, qn, qx⟩
theorem es_cast {M : List Addr} {f : A -> Option B} (hf : forall {K : Fg} {H : Hp} {v : V} {a : A} {b : B}, f a = some b -> rp K H v a -> rp K H v b) {m : Option A} (h : EvS K te σ M H m) : EvS K te σ M H (o1 f m) := fun x hx H1 e Q q => by
  obtain ⟨a, e1, e2⟩ := o1s hx
  exact h a e1 H1 e Q fun v H2 g r => q v H2 g (hf e2 r)
theorem eo_dct : EvO (A := Dy) K tDNewK σ G H (some Dy.dct) := fun x hx G1 H1 L g e a Q q => by
  cases hx
  intro d hd
  have gp := Gx.new (o := HO.dK []) (a.gn hd)
  refine q _ _ _ gp (Gx.new hd) (a.both hd) ?_
  show rpY K _ Dy.dct _
  rw [rpY]
  exact ⟨d, rfl, upd_same⟩
theorem catA_K {X : Cx} (h : X.K = K) : OpR X (binaryOp .Add) (rCatA K) := h ▸ op_catA
end
theorem kit_own {K : Fg} {C D : Addr} {b : Bool} (ne : (Value.ref C == Value.ref D) = false) (hd : PySem.W.hasDictIn K D = true) (ht : PySem.W.typeIn K (.ref D) = some (.type "type")) (hs : PySem.W.subIn K (.ref C) (.ref D) = some b) : PySem.W.kitOne K (.ref C) (.ref D) = some b := by
  obtain ⟨cd, hc, _⟩ := PySem.W.any_some hd
  unfold PySem.W.kitOne PySem.W.kitCls
  rw [if_neg (by rw [ne]; exact Bool.false_ne_true)]
  show (if ((PySem.W.clsIn K D).isSome && PySem.W.typeIn K (Value.ref D) == some (Value.type "type")) = true then PySem.W.subIn K (.ref C) (.ref D) else none) = some b
  rw [hc, ht]
  exact hs
theorem kit_self {K : Fg} {C : Addr} : PySem.W.kitOne K (.ref C) (.ref C) = some true := by
  unfold PySem.W.kitOne
  rw [if_pos (beq_self_eq_true _)]
theorem kit_bi {K : Fg} {C : Addr} {T : String} {b : Bool} (hm : PySem.W.kitMeta T = true) (hs : PySem.W.subIn K (.ref C) (.type T) = some b) : PySem.W.kitOne K (.ref C) (.type T) = some b := by
  unfold PySem.W.kitOne PySem.W.kitCls
  rw [if_neg (fun h => by cases (beq_iff_eq.mp h))]
  show (if PySem.W.kitMeta T = true then PySem.W.subIn K (.ref C) (.type T) else none) = some b
  rw [if_pos hm]
  exact hs
end Pu

set_option Elab.async false
set_option linter.all false
set_option maxRecDepth 100000
namespace Pu
open Pu.Rp (rp)
open PySem PySem.Spec PyProof.Rows L2
/-! texts -/
/-- == of data that may hold texts -/
class Eqp (A : Type) [Rp A] [DecidableEq A] where
  enc : A -> PyData
  ok : A -> Bool
  dp : forall {K : Fg} {H : Hp} {v : V} {x : A}, rp K H v x -> Dp K H v (enc x)
  lay : forall x : A, ok x = true -> (enc x).canLay0 = true
  dep : Nat
  deep : forall x : A, (enc x).depth ≤ dep
  eqv : forall x y : A, PyData.eqv (enc x) (enc y) = decide (x = y)
def strOk (x : Str) : Bool := x.cps.all (· < 0x110000)
instance : Eqp Str where
  enc := .str
  ok := strOk
  dp h := by cases h; exact .str _
  lay x h := by simpa [PyData.canLay0, PyData.strOk, strOk] using h
  dep := 0
  deep _ := by simp [PyData.depth]
  eqv x y := by
    rw [PyData.eqv]
    by_cases h : x = y <;> simp [h]
instance : Eqp Int := ⟨Eqd.enc, fun _ => true, Eqd.dp, fun x _ => Eqd.lay x, Eqd.dep Int, Eqd.deep, Eqd.eqv⟩
instance : Eqp Bool := ⟨Eqd.enc, fun _ => true, Eqd.dp, fun x _ => Eqd.lay x, Eqd.dep Bool, Eqd.deep, Eqd.eqv⟩
instance : Eqp Unit := ⟨Eqd.enc, fun _ => true, Eqd.dp, fun x _ => Eqd.lay x, Eqd.dep Unit, Eqd.deep, Eqd.eqv⟩
section
variable {A B : Type} [Rp A] [Rp B] [DecidableEq A] [DecidableEq B] [Eqp A] [Eqp B]
instance : Eqp (A × B) where
  enc x := .tuple [Eqp.enc x.1, Eqp.enc x.2]
  ok x := Eqp.ok x.1 && Eqp.ok x.2
  dp h := by
    obtain ⟨a, u, w, rfl, h2, h3, h4⟩ := h
    exact .tup (SqT.of h2) (.cons (Eqp.dp h3) (.cons (Eqp.dp h4) .nil))
  lay x h := by
    rw [Bool.and_eq_true] at h
    simp [PyData.canLay0, PyData.canLayAll0, Eqp.lay x.1 h.1, Eqp.lay x.2 h.2]
  dep := max (Eqp.dep A) (Eqp.dep B) + 1
  deep x := by
    have h1 := Eqp.deep x.1
    have h2 := Eqp.deep x.2
    simp only [PyData.depth, PyData.depthAll]
    omega
  eqv x y := by
    rw [PyData.eqv, PyData.eqvAll, PyData.eqvAll, PyData.eqvAll, Eqp.eqv, Eqp.eqv, Bool.and_true]
    cases x; cases y
    simp
theorem al_dpP {K : Fg} {H : Hp} : forall {vs : List V} {xs : List A}, Al (rp K H) vs xs -> DpAll K H vs (xs.map Eqp.enc)
  | [], [], _ => .nil
  | _ :: _, _ :: _, q => .cons (Eqp.dp q.1) (al_dpP q.2)
  | [], _ :: _, q => q.elim
  | _ :: _, [], q => q.elim
theorem lay_allP : forall xs : List A, xs.all Eqp.ok = true -> PyData.canLayAll0 (xs.map Eqp.enc) = true
  | [], _ => by simp [PyData.canLayAll0]
  | x :: xs, h => by
    rw [List.all_cons, Bool.and_eq_true] at h
    have ih := lay_allP xs h.2
    simp [PyData.canLayAll0, Eqp.lay x h.1, ih]
theorem deep_allP : forall xs : List A, PyData.depthAll (xs.map Eqp.enc) ≤ Eqp.dep A
  | [] => by simp [PyData.depthAll]
  | x :: xs => by
    have ih := deep_allP xs
    have h := Eqp.deep x
    simp only [List.map_cons, PyData.depthAll]
    omega
theorem eqv_allP : forall xs ys : List A, PyData.eqvAll (xs.map Eqp.enc) (ys.map Eqp.enc) = decide (xs = ys)
  | [], [] => by simp [PyData.eqvAll]
  | [], _ :: _ => by simp [PyData.eqvAll]
  | _ :: _, [] => by simp [PyData.eqvAll]
  | x :: xs, y :: ys => by
    have ih := eqv_allP xs ys
    rw [List.map_cons, List.map_cons, PyData.eqvAll, Eqp.eqv, ih]
    simp
instance : Eqp (List A) where
  enc x := .list (x.map Eqp.enc)
  ok x := x.all Eqp.ok
  dp h := by
    obtain ⟨a, vs, rfl, h2, h3⟩ := h
    exact .lst (SqL.of h2) (al_dpP h3)
  lay x h := by
    rw [PyData.canLay0]
    exact lay_allP x h
  dep := Eqp.dep A + 1
  deep x := by
    have h := deep_allP x
    simp only [PyData.depth]
    omega
  eqv x y := by
    rw [PyData.eqv]
    exact eqv_allP x y
instance : Eqp (Tl A) where
  enc x := .tuple (x.l.map Eqp.enc)
  ok x := x.l.all Eqp.ok
  dp h := by
    obtain ⟨a, vs, rfl, h2, h3⟩ := h
    exact .tup (SqT.of h2) (al_dpP h3)
  lay x h := by
    rw [PyData.canLay0]
    exact lay_allP x.l h
  dep := Eqp.dep A + 1
  deep x := by
    have h := deep_allP x.l
    simp only [PyData.depth]
    omega
  eqv x y := by
    rw [PyData.eqv, eqv_allP]
    cases x; cases y
    simp
theorem shaped_encP (h : Eqp.dep A ≤ 64) (x : A) (o : Eqp.ok x = true) : SeqAt.shaped (Eqp.enc x) = true := by
  unfold SeqAt.shaped
  rw [Eqp.lay x o, Bool.true_and]
  exact decide_eq_true (Nat.le_trans (Eqp.deep x) h)
def fEqP (x y : A) : Option Bool := if Eqp.ok x = true ∧ Eqp.ok y = true then some (decide (x = y)) else none
def fNeP (x y : A) : Option Bool := if Eqp.ok x = true ∧ Eqp.ok y = true then some (!decide (x = y)) else none
theorem x_eqP {K : Fg} {σ : L2.St} {H : Hp} {ta tb : TE} {ma mb : Option A} (h : Eqp.dep A ≤ 64) (ha : EvB K ta σ H ma) (hb : EvB K tb σ H mb) : EvB K (tOp (rEqD K) ta tb) σ H (o2 fEqP ma mb) := eb_op (fun H x y a b c ra rb hc Q q => by
  unfold fEqP at hc
  split at hc
  · rename_i o
    cases hc
    refine ⟨_, _, Eqp.dp ra, Eqp.dp rb, shaped_encP h a o.1, shaped_encP h b o.2, ?_⟩
    rw [Eqp.eqv]
    exact q _ H Gx.rfl rfl
  · cases hc) ha hb
theorem x_neP {K : Fg} {σ : L2.St} {H : Hp} {ta tb : TE} {ma mb : Option A} (h : Eqp.dep A ≤ 64) (ha : EvB K ta σ H ma) (hb : EvB K tb σ H mb) : EvB K (tOp (rNeD K) ta tb) σ H (o2 fNeP ma mb) := eb_op (fun H x y a b c ra rb hc Q q => by
  unfold fNeP at hc
  split at hc
  · rename_i o
    cases hc
    refine ⟨_, _, Eqp.dp ra, Eqp.dp rb, shaped_encP h a o.1, shaped_encP h b o.2, ?_⟩
    rw [Eqp.eqv]
    exact q _ H Gx.rfl rfl
  · cases hc) ha hb
end
theorem al_str {K : Fg} {H : Hp} : forall {vs : List V} {xs : List Str}, Al (rp K H) vs xs -> vs = xs.map V.str
  | [], [], _ => rfl
  | v :: vs, x :: xs, q => by
    have e : v = .str x := q.1
    rw [List.map_cons, ← al_str q.2, e]
  | [], _ :: _, q => q.elim
  | _ :: _, [], q => q.elim
theorem str_al {K : Fg} {H : Hp} : forall (xs : List Str), Al (rp K H) (xs.map V.str) xs
  | [] => trivial
  | _ :: xs => ⟨rfl, str_al xs⟩
section
variable {K : Fg} {A B : Type} [Rp A] [Rp B] {σ : L2.St} {G H : Hp} {L : Led} {te ta tb tc : TE} {mi mj : Option Int} {ms mt : Option Str}
/-- s[i] -/
def fIxS (z : Str) (i : Int) : Option Str := if z.length ≤ 100000 then (ix z.cps.toList i).map fun c => ⟨#[c]⟩ else none
theorem x_ixS (ha : EvB K ta σ H ms) (hb : EvB K tb σ H mj) : EvB K (tOp rIxS ta tb) σ H (o2 fIxS ms mj) := eb_op (fun H x y a b c ra rb hc Q q => by
  unfold fIxS at hc
  split at hc
  · obtain ⟨n, hn, rfl⟩ := Option.map_eq_some_iff.mp hc
    exact ⟨a, b, n, ra, rb, Evl.sz_of (by assumption), hn, q _ H Gx.rfl rfl⟩
  · cases hc) ha hb
/-- s + t -/
def fCatS (x y : Str) : Option Str := if (x ++ y).length ≤ 100000 then some (x ++ y) else none
/-- sep.join(xs) -/
def fJoin (a : Str) (ys : List Str) : Option Str := if (ys.map (·.length)).sum + ys.length * a.length ≤ 16777216 then some (Txt.join a ys) else none
theorem x_join {mb : Option (List Str)} (ha : EvB K ta σ H ms) (hb : EvB K tb σ H mb) : EvB K (tBM K "str" (fun x xs H Q => ∃ a p, ∃ ys : List Str, x = .str a ∧ xs = [.ref p] ∧ (SqL K H p (ys.map V.str) ∨ SqT K H p (ys.map V.str)) ∧ (ys.map (·.length)).sum + ys.length * a.length ≤ 16777216 ∧ Q (.str (Txt.join a ys)) H) ta (tCons tb tNil)) σ H (o2 fJoin ms mb) := fun x hx H1 e Q q => by
  obtain ⟨a, b, e1, e2, e3⟩ := o2s hx
  unfold fJoin at e3
  split at e3
  · cases e3
    refine ha a e1 H1 e _ fun v H2 g2 r2 => ?_
    cases (show v = V.str a from r2)
    refine ⟨rfl, hb b e2 H2 (e.trans g2) _ fun w H3 g3 r3 => ?_⟩
    obtain ⟨p, vs, rfl, h2, h3⟩ := r3
    rw [al_str h3] at h2
    exact ⟨a, p, b, rfl, rfl, .inl (SqL.of h2), by assumption, q _ H3 (g2.trans g3) rfl⟩
  · cases e3
end
end Pu

set_option Elab.async false
set_option linter.all false
set_option maxRecDepth 100000
namespace Pu
open Pu.Rp (rp)
open PySem PySem.Spec PyProof.Rows L2
/-! the order of texts -/
theorem ltc_tri : forall a b : List Nat, ltCps a b = false -> ltCps b a = false -> a = b
  | [], [], _, _ => rfl
  | [], _ :: _, h, _ => by simp [ltCps] at h
  | _ :: _, [], _, h => by simp [ltCps] at h
  | a :: r, b :: t, h, h' => by
    simp only [ltCps, Bool.or_eq_false_iff, decide_eq_false_iff_not, Bool.and_eq_false_iff] at h h'
    have e : a = b := by omega
    subst e
    have h1 : ltCps r t = false := by rcases h.2 with z | z; · simp at z
                                      · exact z
    have h2 : ltCps t r = false := by rcases h'.2 with z | z; · simp at z
                                      · exact z
    rw [ltc_tri r t h1 h2]
theorem ltc_trans : forall a b c : List Nat, ltCps b a = false -> ltCps c b = false -> ltCps c a = false
  | [], b, c, _, _ => by cases c <;> simp [ltCps]
  | a :: r, [], c, h, _ => by simp [ltCps] at h
  | a :: r, b :: t, [], _, h => by simp [ltCps] at h
  | a :: r, b :: t, c :: s, h, h' => by
    simp only [ltCps, Bool.or_eq_false_iff, decide_eq_false_iff_not, Bool.and_eq_false_iff] at h h' ⊢
    refine ⟨by omega, ?_⟩
    by_cases e : c = a
    · subst e
      have e2 : b = c := by omega
      subst e2
      refine .inr (ltc_trans r t s ?_ ?_)
      · rcases h.2 with z | z
        · simp at z
        · exact z
      · rcases h'.2 with z | z
        · simp at z
        · exact z
    · exact .inl (by simpa using e)
theorem ltc_total (a b : List Nat) : ltCps a b = false ∨ ltCps b a = false := by
  induction a generalizing b with
  | nil => exact .inr (by cases b <;> simp [ltCps])
  | cons x r ih =>
    cases b with
    | nil => exact .inl (by simp [ltCps])
    | cons y t =>
      simp only [ltCps, Bool.or_eq_false_iff, decide_eq_false_iff_not, Bool.and_eq_false_iff]
      rcases Nat.lt_trichotomy x y with h | h | h
      · exact .inr ⟨by omega, .inl (by simp; omega)⟩
      · subst h
        rcases ih t with z | z
        · exact .inl ⟨by omega, .inr z⟩
        · exact .inr ⟨by omega, .inr z⟩
      · exact .inl ⟨by omega, .inl (by simp; omega)⟩
def sle (a b : Str) : Bool := !ltCps b.cps.toList a.cps.toList
theorem sle_anti {a b : Str} (h : sle a b = true) (h' : sle b a = true) : a = b := by
  unfold sle at h h'
  have e := ltc_tri _ _ (by simpa using h') (by simpa using h)
  cases a; cases b
  congr 1
  exact Array.toList_inj.mp e
theorem sle_trans {a b c : Str} (h : sle a b = true) (h' : sle b c = true) : sle a c = true := by
  unfold sle at h h' ⊢
  rw [ltc_trans _ _ _ (by simpa using h) (by simpa using h')]
  rfl
theorem sle_total (a b : Str) : (sle a b || sle b a) = true := by
  unfold sle
  rcases ltc_total b.cps.toList a.cps.toList with h | h <;> simp [h]
theorem risingS_pw : forall (l : List Str) (p : Str), risingS p l = true -> (p :: l).Pairwise (fun a b => sle a b = true)
  | [], p, _ => List.pairwise_singleton _ _
  | x :: r, p, h => by
    have h' : sle p x = true ∧ risingS x r = true := by simpa [risingS, sle] using h
    have ih := risingS_pw r x h'.2
    refine List.pairwise_cons.mpr ⟨fun y hy => ?_, ih⟩
    rcases List.mem_cons.mp hy with rfl | hy
    · exact h'.1
    · exact sle_trans h'.1 ((List.pairwise_cons.mp ih).1 y hy)
theorem sortedS_pw {l : List Str} (h : sortedS l = true) : l.Pairwise (fun a b => sle a b = true) := by
  cases l with
  | nil => exact List.Pairwise.nil
  | cons x r => exact risingS_pw r x h
/-- the rising list of texts -/
def ssort (x : List Str) : List Str := x.mergeSort sle
theorem ssort_perm (x : List Str) : (ssort x).Perm x := List.mergeSort_perm _ _
theorem ssort_pw (x : List Str) : (ssort x).Pairwise (fun a b => sle a b = true) := List.pairwise_mergeSort (le := sle) (fun a b c h1 h2 => sle_trans h1 h2) (fun a b => sle_total a b) x
theorem ss_uniq {xs ys : List Str} (p : xs.Perm ys) (h1 : xs.Pairwise (fun a b => sle a b = true)) (h2 : ys.Pairwise (fun a b => sle a b = true)) : xs = ys :=
  p.eq_of_pairwise (fun a b _ _ h h' => sle_anti h h') h1 h2
theorem ssort_mem {x : List Str} (p : Str) : p ∈ ssort x ↔ p ∈ x := (ssort_perm x).mem_iff
theorem ssort_len (x : List Str) : (ssort x).length = x.length := (ssort_perm x).length_eq
/-! dicts with texts as keys -/
structure Ds (A : Type) where
  l : List (Str × A)
  deriving DecidableEq
def Da' {B : Type} (F : V -> B -> Prop) : List (Key × V) -> List (Str × B) -> Prop
  | [], [] => True
  | p :: r, x :: xs => p.1 = .inr x.1 ∧ F p.2 x.2 ∧ Da' F r xs
  | _, _ => False
def sput {B : Type} (d : List (Str × B)) (k : Str) (x : B) : List (Str × B) := if (d.any fun p => decide (p.1 = k)) = true then d.map (fun p => if p.1 = k then (p.1, x) else p) else d ++ [(k, x)]
def sget {B : Type} (d : List (Str × B)) (k : Str) : Option B := (d.find? fun p => decide (p.1 = k)).map (·.2)
theorem Da'.mono {B : Type} {F F' : V -> B -> Prop} (h : forall v x, F v x -> F' v x) : forall {kvs : List (Key × V)} {d : List (Str × B)}, Da' F kvs d -> Da' F' kvs d
  | [], [], _ => trivial
  | _ :: _, _ :: _, q => ⟨q.1, h _ _ q.2.1, Da'.mono h q.2.2⟩
  | [], _ :: _, q => q.elim
  | _ :: _, [], q => q.elim
theorem Da'.len {B : Type} {F : V -> B -> Prop} : forall {kvs : List (Key × V)} {d : List (Str × B)}, Da' F kvs d -> kvs.length = d.length
  | [], [], _ => rfl
  | _ :: _, _ :: _, q => by simp only [List.length_cons, Da'.len q.2.2]
  | [], _ :: _, q => q.elim
  | _ :: _, [], q => q.elim
theorem key_eq (x k : Str) : decide ((Sum.inr x : Key) = .inr k) = decide (x = k) := by
  by_cases e : x = k
  · rw [decide_eq_true e, e]; simp
  · rw [decide_eq_false e, decide_eq_false (fun z => e (Sum.inr.inj z))]
theorem Da'.any {B : Type} {F : V -> B -> Prop} (k : Str) : forall {kvs : List (Key × V)} {d : List (Str × B)}, Da' F kvs d -> (kvs.any fun p => decide (p.1 = .inr k)) = d.any fun p => decide (p.1 = k)
  | [], [], _ => rfl
  | p :: r, x :: xs, q => by rw [List.any_cons, List.any_cons, Da'.any k q.2.2, q.1, key_eq]
  | [], _ :: _, q => q.elim
  | _ :: _, [], q => q.elim
theorem Da'.get {B : Type} {F : V -> B -> Prop} (k : Str) : forall {kvs : List (Key × V)} {d : List (Str × B)}, Da' F kvs d -> (valV kvs (.inr k) = none ∧ sget d k = none) ∨ exists v x, valV kvs (.inr k) = some v ∧ sget d k = some x ∧ F v x
  | [], [], _ => .inl ⟨rfl, rfl⟩
  | p :: r, x :: xs, q => by
    unfold valV sget
    rw [List.find?_cons, List.find?_cons, q.1, key_eq]
    by_cases e : x.1 = k
    · rw [decide_eq_true e]
      exact .inr ⟨p.2, x.2, rfl, rfl, q.2.1⟩
    · rw [decide_eq_false e]
      exact Da'.get k q.2.2
  | [], _ :: _, q => q.elim
  | _ :: _, [], q => q.elim
theorem Da'.map {B : Type} {F : V -> B -> Prop} {k : Str} {v : V} {x : B} (h : F v x) : forall {kvs : List (Key × V)} {d : List (Str × B)}, Da' F kvs d -> Da' F (kvs.map fun p => if p.1 = .inr k then (p.1, v) else p) (d.map fun p => if p.1 = k then (p.1, x) else p)
  | [], [], _ => trivial
  | p :: r, y :: ys, q => by
    refine ⟨?_, ?_, Da'.map h q.2.2⟩
    · by_cases e : y.1 = k
      · have e2 : p.1 = .inr k := by rw [q.1, e]
        simp only [if_pos e, if_pos e2]
        exact q.1
      · have e2 : ¬ p.1 = .inr k := fun z => e (Sum.inr.inj (q.1.symm.trans z))
        simp only [if_neg e, if_neg e2]
        exact q.1
    · by_cases e : y.1 = k
      · have e2 : p.1 = .inr k := by rw [q.1, e]
        simp only [if_pos e, if_pos e2]
        exact h
      · have e2 : ¬ p.1 = .inr k := fun z => e (Sum.inr.inj (q.1.symm.trans z))
        simp only [if_neg e, if_neg e2]
        exact q.2.1
  | [], _ :: _, q => q.elim
  | _ :: _, [], q => q.elim
theorem Da'.snoc {B : Type} {F : V -> B -> Prop} {k : Str} {v : V} {x : B} (h : F v x) : forall {kvs : List (Key × V)} {d : List (Str × B)}, Da' F kvs d -> Da' F (kvs ++ [(.inr k, v)]) (d ++ [(k, x)])
  | [], [], _ => ⟨rfl, h, trivial⟩
  | _ :: _, _ :: _, q => ⟨q.1, q.2.1, Da'.snoc h q.2.2⟩
  | [], _ :: _, q => q.elim
  | _ :: _, [], q => q.elim
theorem Da'.put {B : Type} {F : V -> B -> Prop} {kvs : List (Key × V)} {d : List (Str × B)} {k : Str} {v : V} {x : B} (q : Da' F kvs d) (h : F v x) : Da' F (putK kvs (.inr k) v) (sput d k x) := by
  unfold putK sput
  rw [Da'.any k q]
  split
  · exact Da'.map h q
  · exact Da'.snoc h q
theorem Da'.keys {B : Type} {F : V -> B -> Prop} : forall {kvs : List (Key × V)} {d : List (Str × B)}, Da' F kvs d -> kvs.map (·.1) = (d.map (·.1)).map Sum.inr
  | [], [], _ => rfl
  | p :: r, x :: xs, q => by rw [List.map_cons, List.map_cons, List.map_cons, q.1, Da'.keys q.2.2]
  | [], _ :: _, q => q.elim
  | _ :: _, [], q => q.elim
instance {A : Type} [Rp A] : Rp (Ds A) where
  rp K H v x := exists d kvs, v = .ref d ∧ Rd H d (.dK kvs) ∧ Da' (rp K H) kvs x.l
  mono e := fun ⟨d, kvs, h1, h2, h3⟩ => ⟨d, kvs, h1, e.rd h2, h3.mono fun _ _ => Rp.mono e⟩
end Pu

set_option Elab.async false
set_option linter.all false
set_option maxRecDepth 100000
namespace Pu
open Pu.Rp (rp)
open PySem PySem.Spec PyProof.Rows L2
section
variable {K : Fg} {A B C : Type} [Rp A] [Rp B] [Rp C] {σ : L2.St} {G H : Hp} {L : Led} {te ta tb tc : TE} {mi mj : Option Int} {ms mt : Option Str} {X : Cx}
theorem flat_str : forall xs : List Str, (xs.map V.str).all flatV = true
  | [] => rfl
  | x :: xs => by rw [List.map_cons, List.all_cons, flat_str xs]; rfl
theorem in_str (x : Str) : forall xs : List Str, inV (.str x) (xs.map V.str) = decide (x ∈ xs)
  | [] => rfl
  | y :: ys => by
    have ih := in_str x ys
    unfold inV at ih ⊢
    rw [List.map_cons, List.any_cons, ih]
    show ((y == x) || _) = _
    by_cases e : y = x
    · subst e; simp
    · have e' : ¬ x = y := fun z => e z.symm
      simp [e, e']
def fInL (x : Str) (xs : List Str) : Option Bool := some (decide (x ∈ xs))
def fNinL (x : Str) (xs : List Str) : Option Bool := some (!decide (x ∈ xs))
def fInT (x : Str) (xs : Tl Str) : Option Bool := some (decide (x ∈ xs.l))
def fNinT (x : Str) (xs : Tl Str) : Option Bool := some (!decide (x ∈ xs.l))
theorem x_inL {mb : Option (List Str)} (ha : EvB K ta σ H ms) (hb : EvB K tb σ H mb) : EvB K (tOp (rIn K false) ta tb) σ H (o2 fInL ms mb) := eb_op (fun H x y a b c ra rb hc Q q => by
  cases hc
  obtain ⟨p, vs, rfl, h2, h3⟩ := rb
  cases (show x = V.str a from ra)
  rw [al_str h3] at h2
  refine ⟨p, _, rfl, .inl (SqL.of h2), rfl, flat_str b, ?_⟩
  rw [if_neg Bool.false_ne_true, in_str]
  exact q _ H Gx.rfl rfl) ha hb
theorem x_ninL {mb : Option (List Str)} (ha : EvB K ta σ H ms) (hb : EvB K tb σ H mb) : EvB K (tOp (rIn K true) ta tb) σ H (o2 fNinL ms mb) := eb_op (fun H x y a b c ra rb hc Q q => by
  cases hc
  obtain ⟨p, vs, rfl, h2, h3⟩ := rb
  cases (show x = V.str a from ra)
  rw [al_str h3] at h2
  refine ⟨p, _, rfl, .inl (SqL.of h2), rfl, flat_str b, ?_⟩
  rw [if_pos rfl, in_str]
  exact q _ H Gx.rfl rfl) ha hb
theorem x_inT {mb : Option (Tl Str)} (ha : EvB K ta σ H ms) (hb : EvB K tb σ H mb) : EvB K (tOp (rIn K false) ta tb) σ H (o2 fInT ms mb) := eb_op (fun H x y a b c ra rb hc Q q => by
  cases hc
  obtain ⟨p, vs, rfl, h2, h3⟩ := rb
  cases (show x = V.str a from ra)
  rw [al_str h3] at h2
  refine ⟨p, _, rfl, .inr (SqT.of h2), rfl, flat_str b.l, ?_⟩
  rw [if_neg Bool.false_ne_true, in_str]
  exact q _ H Gx.rfl rfl) ha hb
theorem x_ninT {mb : Option (Tl Str)} (ha : EvB K ta σ H ms) (hb : EvB K tb σ H mb) : EvB K (tOp (rIn K true) ta tb) σ H (o2 fNinT ms mb) := eb_op (fun H x y a b c ra rb hc Q q => by
  cases hc
  obtain ⟨p, vs, rfl, h2, h3⟩ := rb
  cases (show x = V.str a from ra)
  rw [al_str h3] at h2
  refine ⟨p, _, rfl, .inr (SqT.of h2), rfl, flat_str b.l, ?_⟩
  rw [if_pos rfl, in_str]
  exact q _ H Gx.rfl rfl) ha hb
theorem opIn_K (h : X.K = K) : OpR X (compareOp .In) (rIn K false) := h ▸ op_in_seq
theorem opNin_K (h : X.K = K) : OpR X (compareOp .NotIn) (rIn K true) := h ▸ op_notIn_seq
/-- methods of texts without arguments that tell a truth -/
def fS {B : Type} (g : Str -> B) (x : Str) : Option B := some (g x)
theorem x_sB {g : Str -> Bool} (ha : EvB K ta σ H ms) : EvB K (tBM0 K "str" (fun x xs H Q => ∃ a, x = .str a ∧ xs = [] ∧ True ∧ Q (.bl (g a)) H) ta) σ H (o1 (fS g) ms) := fun x hx H1 e Q q => by
  obtain ⟨a, e1, e3⟩ := o1s hx
  cases e3
  refine ha a e1 H1 e _ fun v H2 g2 r2 => ?_
  cases (show v = V.str a from r2)
  exact ⟨rfl, a, rfl, rfl, trivial, q _ H2 g2 rfl⟩
/-- s.index(t), found -/
def fSIndex (a b : Str) : Option Int := match Builtin.Str.occurrences a b 0 a.length 1 with
  | i :: _ => some (i : Nat)
  | [] => none
theorem x_sindex (ha : EvB K ta σ H ms) (hb : EvB K tb σ H mt) : EvB K (tBM K "str" (fun x xs H Q => ∃ a b i rest, x = .str a ∧ xs = [.str b] ∧ Builtin.Str.occurrences a b 0 a.length 1 = i :: rest ∧ Q (.int (i : Nat)) H) ta (tCons tb tNil)) σ H (o2 fSIndex ms mt) := fun x hx H1 e Q q => by
  obtain ⟨a, b, e1, e2, e3⟩ := o2s hx
  unfold fSIndex at e3
  split at e3
  · rename_i i r hr
    cases e3
    refine ha a e1 H1 e _ fun v H2 g2 r2 => ?_
    cases (show v = V.str a from r2)
    refine ⟨rfl, hb b e2 H2 (e.trans g2) _ fun w H3 g3 r3 => ?_⟩
    cases (show w = V.str b from r3)
    exact ⟨a, b, i, r, rfl, rfl, hr, q _ H3 (g2.trans g3) rfl⟩
  · cases e3
/-- sorted -/
def fSortS (x : List Str) : Option (List Str) := if x.length < 64 then some (ssort x) else none
theorem srtS_K (h : X.K = K) : CallR X (.builtin "sorted") (rSortedS K) := h ▸ cr_sortedS
theorem x_sortS {ma : Option (List Str)} (ha : EvB K ta σ H ma) : EvN K (tCB (rSortedS K) (tCons ta tNil)) σ H (o1 fSortS ma) :=
  call1L (fun H v x c r hc Q q => by
    unfold fSortS at hc
    split at hc
    · cases hc
      obtain ⟨p, vs, rfl, h2, h3⟩ := r
      rw [al_str h3] at h2
      refine ⟨p, x, rfl, SqL.of h2, by assumption, fun ys p' hp1 hp2 hn => ?_⟩
      rw [ss_uniq (hp1.trans (ssort_perm x).symm) (sortedS_pw hp2) (ssort_pw x)]
      exact q p' _ hn (str_al _)
    · cases hc) ha
/-- sorted(d), list(d) -/
def fSortD (x : Ds A) : Option (List Str) := if x.l.length < 64 then some (ssort (x.l.map (·.1))) else none
def fListD (x : Ds A) : Option (List Str) := some (x.l.map (·.1))
theorem x_sortD {ma : Option (Ds A)} (ha : EvB K ta σ H ma) : EvN K (tCB (fun xs H Q => ∃ (a : Addr) (kvs : List (Key × V)) (ks : List Str), xs = [.ref a] ∧ Rd H a (.dK kvs) ∧ kvs.map (·.1) = ks.map Sum.inr ∧ ks.length < 64 ∧ ∀ ys p, ys.Perm ks → sortedS ys = true → H p = none → Q (.ref p) (upd H p (.lst (ys.map V.str)))) (tCons ta tNil)) σ H (o1 fSortD ma) :=
  call1L (fun H v x c r hc Q q => by
    unfold fSortD at hc
    split at hc
    · cases hc
      obtain ⟨p, kvs, rfl, h2, h3⟩ := r
      refine ⟨p, kvs, x.l.map (·.1), rfl, h2, h3.keys, by rw [List.length_map]; assumption, fun ys p' hp1 hp2 hn => ?_⟩
      rw [ss_uniq (hp1.trans (ssort_perm _).symm) (sortedS_pw hp2) (ssort_pw _)]
      exact q p' _ hn (str_al _)
    · cases hc) ha
theorem keys_v : forall ks : List Str, (ks.map (Sum.inr : Str -> Key)).map kV = ks.map V.str
  | [] => rfl
  | k :: ks => by rw [List.map_cons, List.map_cons, List.map_cons, keys_v ks]; rfl
theorem x_listD {ma : Option (Ds A)} (ha : EvB K ta σ H ma) : EvN K (tCB (fun xs H Q => ∃ (a : Addr) (kvs : List (Key × V)), xs = [.ref a] ∧ Rd H a (.dK kvs) ∧ ∀ p, H p = none → Q (.ref p) (upd H p (.lst (kvs.map fun kv => kV kv.1)))) (tCons ta tNil)) σ H (o1 fListD ma) :=
  call1L (fun H v x c r hc Q q => by
    cases hc
    obtain ⟨p, kvs, rfl, h2, h3⟩ := r
    refine ⟨p, kvs, rfl, h2, fun l hl => ?_⟩
    rw [show (kvs.map fun kv => kV kv.1) = (x.l.map (·.1)).map V.str by rw [← keys_v, ← h3.keys, List.map_map]; rfl]
    exact q l _ hl (str_al _)) ha
/-- k in d, d[k], d.get(k, x) -/
def fInD (k : Str) (d : Ds A) : Option Bool := some (sget d.l k).isSome
def fNinD (k : Str) (d : Ds A) : Option Bool := some (!(sget d.l k).isSome)
def fGetD (d : Ds A) (k : Str) : Option A := sget d.l k
def fGet2 (d : Ds A) (k : Str) (x : A) : Option A := some ((sget d.l k).getD x)
theorem x_inD {mb : Option (Ds A)} (ha : EvB K ta σ H ms) (hb : EvB K tb σ H mb) : EvB K (fun σ H Q => tDIn ta tb σ H Q) σ H (o2 fInD ms mb) := fun x hx H1 e Q q => by
  obtain ⟨k, d, e1, e2, e3⟩ := o2s hx
  cases e3
  refine ha k e1 H1 e _ fun v H2 g2 r2 => hb d e2 H2 (e.trans g2) _ fun w H3 g3 r3 => ?_
  cases (show v = V.str k from r2)
  obtain ⟨p, kvs, rfl, h2, h3⟩ := r3
  refine ⟨p, _, rfl, .inl ⟨kvs, Sum.inr k, h2, rfl, rfl⟩, ?_⟩
  rcases h3.get k with ⟨z1, z2⟩ | ⟨v, y, z1, z2, _⟩ <;> (rw [z1]; rw [z2] at q; exact q _ H3 (g2.trans g3) rfl)
theorem x_ninD {mb : Option (Ds A)} (ha : EvB K ta σ H ms) (hb : EvB K tb σ H mb) : EvB K (fun σ H Q => tDNotIn ta tb σ H Q) σ H (o2 fNinD ms mb) := fun x hx H1 e Q q => by
  obtain ⟨k, d, e1, e2, e3⟩ := o2s hx
  cases e3
  refine ha k e1 H1 e _ fun v H2 g2 r2 => hb d e2 H2 (e.trans g2) _ fun w H3 g3 r3 => ?_
  cases (show v = V.str k from r2)
  obtain ⟨p, kvs, rfl, h2, h3⟩ := r3
  refine ⟨p, _, rfl, .inl ⟨kvs, Sum.inr k, h2, rfl, rfl⟩, ?_⟩
  rcases h3.get k with ⟨z1, z2⟩ | ⟨v, y, z1, z2, _⟩ <;> (rw [z1]; rw [z2] at q; exact q _ H3 (g2.trans g3) rfl)
theorem x_getD {ma : Option (Ds A)} (ha : EvB K ta σ H ma) (hb : EvB K tb σ H ms) : EvB K (tDGet ta tb) σ H (o2 fGetD ma ms) := fun x hx H1 e Q q => by
  obtain ⟨d, k, e1, e2, e3⟩ := o2s hx
  refine ha d e1 H1 e _ fun v H2 g2 r2 => hb k e2 H2 (e.trans g2) _ fun w H3 g3 r3 => ?_
  cases (show w = V.str k from r3)
  obtain ⟨p, kvs, rfl, h2, h3⟩ := Rp.mono g3 r2
  rcases h3.get k with ⟨z1, z2⟩ | ⟨v, y, z1, z2, z3⟩
  · rw [show fGetD d k = sget d.l k from rfl, z2] at e3; cases e3
  · rw [show fGetD d k = sget d.l k from rfl, z2] at e3; cases e3
    exact ⟨p, v, rfl, z1 ▸ (show DGet _ _ (V.str k) (valV kvs (.inr k)) from .inl ⟨kvs, Sum.inr k, h2, rfl, rfl⟩), q v H3 (g2.trans g3) z3⟩
theorem x_get2 {ma : Option (Ds A)} {mc : Option A} (ha : EvB K ta σ H ma) (hb : EvB K tb σ H ms) (hc : EvB K tc σ H mc) : EvB K (tDGet2 ta tb tc) σ H (o3 fGet2 ma ms mc) := fun x hx H1 e Q q => by
  obtain ⟨d, k, y, e1, e2, e2', e3⟩ := o3s hx
  cases e3
  refine ha d e1 H1 e _ fun v H2 g2 r2 => ?_
  obtain ⟨p, kvs, rfl, h2, h3⟩ := r2
  refine ⟨p, rfl, .inl ⟨kvs, h2⟩, hb k e2 H2 (e.trans g2) _ fun w H3 g3 r3 => hc y e2' H3 ((e.trans g2).trans g3) _ fun z H4 g4 r4 => ?_⟩
  cases (show w = V.str k from r3)
  refine ⟨_, .inl ⟨kvs, Sum.inr k, (g3.trans g4).rd h2, rfl, rfl⟩, ?_⟩
  have h5 := h3.mono fun _ _ => Rp.mono (g3.trans g4)
  rcases h5.get k with ⟨z1, z2⟩ | ⟨v, y', z1, z2, z3⟩
  · rw [z1]
    rw [z2] at q
    exact q z H4 ((g2.trans g3).trans g4) r4
  · rw [z1]
    rw [z2] at q
    exact q v H4 ((g2.trans g3).trans g4) z3
/-- int(b), xs * n -/
def fIntB (b : Bool) : Option Int := some (if b = true then 1 else 0)
theorem x_intB {mb : Option Bool} (ha : EvB K ta σ H mb) : EvB K (tCB (fun xs H Q => (∃ i, xs = [.int i] ∧ Q (.int i) H) ∨ ∃ k, xs = [.bl k] ∧ Q (.int (if k then 1 else 0)) H) (tCons ta tNil)) σ H (o1 fIntB mb) :=
  call1 (fun H v x c r hc Q q => by
    cases hc
    cases (show v = V.bl x from r)
    exact .inr ⟨x, rfl, q _ H Gx.rfl rfl⟩) ha
theorem al_rep {F : V -> A -> Prop} {vs : List V} {xs : List A} (r : Al F vs xs) : forall n : Nat, Al F (List.replicate n vs).flatten (List.replicate n xs).flatten
  | 0 => trivial
  | n + 1 => by
    rw [List.replicate_succ, List.replicate_succ, List.flatten_cons, List.flatten_cons]
    exact r.app (al_rep r n)
def fRep (xs : List A) (n : Int) : Option (List A) := if -1000 ≤ n ∧ n ≤ 1000 ∧ xs.length * n.toNat ≤ 100000 then some (List.replicate n.toNat xs).flatten else none
theorem x_rep {ma : Option (List A)} (ha : EvB K ta σ H ma) (hb : EvB K tb σ H mi) : EvN K (tOp rRep ta tb) σ H (o2 fRep ma mi) := fun x hx H1 e Q q => by
  obtain ⟨a, n, e1, e2, e3⟩ := o2s hx
  unfold fRep at e3
  split at e3
  · rename_i hn
    cases e3
    refine ha a e1 H1 e _ fun v H2 g2 r2 => hb n e2 H2 (e.trans g2) _ fun w H3 g3 r3 => ?_
    obtain ⟨p, vs, rfl, h2, h3⟩ := Rp.mono g3 r2
    cases (show w = V.int n from r3)
    have g5 := g2.trans g3
    exact ⟨p, n, vs, rfl, rfl, h2, by omega, by omega, by rw [h3.len]; exact Evl.sz_of hn.2.2, fun p' hp => q p' _ _ (g5.back hp) (g5.trans (Gx.new hp)) upd_same ((al_rep h3 _).mono fun _ _ => Rp.mono (Gx.new hp))⟩
  · cases e3
/-- text + text -/
theorem x_catS (ha : EvB K ta σ H ms) (hb : EvB K tb σ H mt) : EvB K (tOp (fun x y H Q => ∃ i j, x = .str i ∧ y = .str j ∧ i.length + j.length ≤ sizeLine ∧ Q (.str (i ++ j)) H) ta tb) σ H (o2 (fun x y => if x.length + y.length ≤ 100000 then some (x ++ y) else none) ms mt) := eb_op (fun H x y a b c ra rb hc Q q => by
  split at hc
  · cases hc
    exact ⟨a, b, ra, rb, Evl.sz_of (by assumption), q _ H Gx.rfl rfl⟩
  · cases hc) ha hb
/-- len of a text; a test by a text's being there -/
theorem len_str {v : V} {x : Str} (r : rp K H v x) : v = .str x := r
end
end Pu

set_option Elab.async false
set_option linter.all false
set_option maxRecDepth 100000
namespace Pu
open Pu.Rp (rp)
open PySem PySem.Spec PyProof.Rows L2
/-! the ledger in any order -/
theorem At.perm {G H : Hp} {L L' : Led} (a : At G H L) (p : L.Perm L') : At G H L' :=
  ⟨a.ex, (p.map _).nodup_iff.mp a.nd, fun q hq => a.led q (p.mem_iff.mpr hq)⟩
section
variable {G H : Hp} {a b c d e f g r : Led}
theorem At.b1 (A : At G H (a ++ (b ++ r))) : At G H (b ++ (a ++ r)) := A.perm (by
  rw [← List.append_assoc, ← List.append_assoc]
  exact List.perm_append_comm.append_right r)
theorem At.inn {x y : Led} (p : x.Perm y) (A : At G H (a ++ x)) : At G H (a ++ y) := A.perm (p.append_left a)
theorem p1 : (a ++ (b ++ r)).Perm (b ++ (a ++ r)) := by
  rw [← List.append_assoc, ← List.append_assoc]
  exact List.perm_append_comm.append_right r
theorem p2 : (a ++ (b ++ (c ++ r))).Perm (c ++ (a ++ (b ++ r))) := (p1.append_left a).trans p1
theorem p3 : (a ++ (b ++ (c ++ (d ++ r)))).Perm (d ++ (a ++ (b ++ (c ++ r)))) := (p2.append_left a).trans p1
theorem p4 : (a ++ (b ++ (c ++ (d ++ (e ++ r))))).Perm (e ++ (a ++ (b ++ (c ++ (d ++ r))))) := (p3.append_left a).trans p1
theorem p5 : (a ++ (b ++ (c ++ (d ++ (e ++ (f ++ r)))))).Perm (f ++ (a ++ (b ++ (c ++ (d ++ (e ++ r)))))) := (p4.append_left a).trans p1
theorem p6 : (a ++ (b ++ (c ++ (d ++ (e ++ (f ++ (g ++ r))))))).Perm (g ++ (a ++ (b ++ (c ++ (d ++ (e ++ (f ++ r))))))) := (p5.append_left a).trans p1
theorem At.b2 (A : At G H (a ++ (b ++ (c ++ r)))) : At G H (c ++ (a ++ (b ++ r))) := A.perm p2
theorem At.b3 (A : At G H (a ++ (b ++ (c ++ (d ++ r))))) : At G H (d ++ (a ++ (b ++ (c ++ r)))) := A.perm p3
theorem At.b4 (A : At G H (a ++ (b ++ (c ++ (d ++ (e ++ r)))))) : At G H (e ++ (a ++ (b ++ (c ++ (d ++ r))))) := A.perm p4
theorem At.b5 (A : At G H (a ++ (b ++ (c ++ (d ++ (e ++ (f ++ r))))))) : At G H (f ++ (a ++ (b ++ (c ++ (d ++ (e ++ r)))))) := A.perm p5
theorem At.b6 (A : At G H (a ++ (b ++ (c ++ (d ++ (e ++ (f ++ (g ++ r)))))))) : At G H (g ++ (a ++ (b ++ (c ++ (d ++ (e ++ (f ++ r))))))) := A.perm p6
theorem At.drop1 (A : At G H (a ++ r)) : At G H r := At.drop A
theorem At.frz1 {p : Addr} {o : HO} (A : At G H ([(p, o)] ++ r)) : exists G2, G2 = upd G p o ∧ Gx G G2 ∧ At G2 H r := ⟨_, rfl, (At.frz (L1 := []) A).1, (At.frz (L1 := []) A).2⟩
end
section
variable {K : Fg} {A B C I : Type} [Rp A] [Rp B] [Rp C] [Rp I]
variable {σ : L2.St} {G G' H H' : Hp} {L : Led} {te ta tb tc : TE} {tt tu : TT} {X : Ends} {t1 t2 u : TS} {i j : Nat}
/-! names -/
theorem sf_asg {m : Option A} {x : A} (h : EvO K te σ G H m) (hm : m = some x) (a : At G H L) (k : forall v G2 H2, Gx G G2 -> At G2 H2 L -> rp K G2 v x -> u X (σ.set i (some v)) H2) : tSeq (tAsg te (gName i)) u X σ H :=
  st_asg h hm a fun v G2 H2 g _ a2 r => k v G2 H2 g a2 r
theorem sf_new (a : At G H L) (k : forall p H2, At G H2 ([(p, HO.lst [])] ++ L) -> u X (σ.set i (some (.ref p))) H2) : tSeq (tAsg (tLst tNil) (gName i)) u X σ H :=
  st_new a fun p _ a2 => k p _ a2
theorem sf_newM [Im A] {m : Option (List A)} {x : List A} (h : EvN K te σ H m) (hm : m = some x) (a : At G H L) (k : forall p vs G2 H2, Gx G G2 -> At G2 H2 ([(p, HO.lst vs)] ++ L) -> Al (rp K G2) vs x -> u X (σ.set i (some (.ref p))) H2) : tSeq (tAsg te (gName i)) u X σ H :=
  st_newM h hm a fun p vs G2 H2 _ g _ a2 r => k p vs G2 H2 g a2 r
theorem sf_drop {m : Option A} {x : A} (h : EvB K te σ H m) (hm : m = some x) (a : At G H L) (k : forall H2, At G H2 L -> u X σ H2) : tSeq (tDrop te) u X σ H := h x hm H Gx.rfl _ fun _ H2 e _ => k H2 (a.grow e)
/-! targets, at what is frozen -/
def TgL {I : Type} [Rp I] (K : Fg) (g : TG) (b : Bd I) : Prop := forall x v σ G H (Q : L2.St -> Hp -> Prop), Gx G H -> rp K G v x -> (forall σ2, b x σ G σ2 -> Q σ2 H) -> g v σ H Q
theorem tl_n {j : Nat} : TgL K (gName j) (bN A K j) := fun x v σ G H Q _ r q => q _ ⟨v, r, rfl⟩
theorem tl_p {g1 g2 : TG} {b1 : Bd A} {b2 : Bd B} (h1 : TgL K g1 b1) (h2 : TgL K g2 b2) : TgL K (gTup K 2 (gCons g1 (gCons g2 gNil))) (bP b1 b2) := fun x v σ G H Q e r q => by
  obtain ⟨a, u, w, rfl, e0, r1, r2⟩ := r
  exact ⟨a, [u, w], rfl, SqT.of (e _ _ e0), rfl, u, [w], rfl, h1 x.1 u σ G H _ e r1 fun σ1 q1 => ⟨w, [], rfl, h2 x.2 w σ1 G H _ e r2 fun σ2 q2 => ⟨rfl, q σ2 ⟨σ1, q1, q2⟩⟩⟩⟩
theorem tl_3 {g1 g2 g3 : TG} {b1 : Bd A} {b2 : Bd B} {b3' : Bd C} (h1 : TgL K g1 b1) (h2 : TgL K g2 b2) (h3 : TgL K g3 b3') : TgL K (gTup K 3 (gCons g1 (gCons g2 (gCons g3 gNil)))) (b3 b1 b2 b3') := fun x v σ G H Q e r q => by
  obtain ⟨a, u, w, z, rfl, e0, r1, r2, r3⟩ := r
  exact ⟨a, [u, w, z], rfl, SqT.of (e _ _ e0), rfl, u, [w, z], rfl, h1 x.a u σ G H _ e r1 fun σ1 q1 => ⟨w, [z], rfl, h2 x.b w σ1 G H _ e r2 fun σ2 q2 => ⟨z, [], rfl, h3 x.c z σ2 G H _ e r3 fun σ3 q3 => ⟨rfl, q σ3 ⟨σ1, σ2, q1, q2, q3⟩⟩⟩⟩⟩
theorem sf_asgP {g : TG} {b : Bd A} {m : Option A} {x : A} (h : EvO K te σ G H m) (hm : m = some x) (hg : TgL K g b) (a : At G H L) (k : forall σ2 G2 H2, Gx G G2 -> At G2 H2 L -> b x σ G2 σ2 -> u X σ2 H2) : tSeq (tAsg te g) u X σ H :=
  h x hm G H L Gx.rfl Gx.rfl a _ fun v G2 H2 e _ a2 r => hg x v σ G2 H2 _ a2.ex r fun σ2 q => k σ2 G2 H2 e a2 q
/-! lists that are changed -/
theorem sf_app {p : Addr} {vs : List V} {m : Option A} {x : A} (hs : σ[i]? = some (some (.ref p))) (h : EvO K te σ G H m) (hm : m = some x) (a : At G H ([(p, HO.lst vs)] ++ L)) (hz : vs.length < 100000)
    (k : forall v G2 H2, Gx G G2 -> At G2 H2 ([(p, HO.lst (vs ++ [v]))] ++ L) -> rp K G2 v x -> u X σ H2) : tSeq (tDrop (tBM K "list" rAppend (tVar i) (tCons te tNil))) u X σ H :=
  st_app (L1 := []) (slot_ref hs) h hm a hz fun v G2 H2 g _ a2 r => k v G2 _ g a2 r
theorem sf_extend {p : Addr} {vs : List V} {m : Option (List A)} {x : List A} (hs : σ[i]? = some (some (.ref p))) (h : EvO K te σ G H m) (hm : m = some x) (a : At G H ([(p, HO.lst vs)] ++ L)) (hz : vs.length + x.length ≤ 100000)
    (k : forall ws G2 H2, Gx G G2 -> At G2 H2 ([(p, HO.lst (vs ++ ws))] ++ L) -> Al (rp K G2) ws x -> u X σ H2) : tSeq (tDrop (tBM K "list" rExtend (tVar i) (tCons te tNil))) u X σ H :=
  st_extend (L1 := []) (slot_ref hs) h hm a hz fun ws G2 H2 g _ a2 r => k ws G2 _ g a2 r
theorem sf_reverse {p : Addr} {vs : List V} (hs : σ[i]? = some (some (.ref p))) (a : At G H ([(p, HO.lst vs)] ++ L)) (k : forall H2, At G H2 ([(p, HO.lst vs.reverse)] ++ L) -> u X σ H2) : tSeq (tDrop (tBM0 K "list" rReverse (tVar i))) u X σ H :=
  st_reverse (L1 := []) (slot_ref hs) a fun a2 => k _ a2
theorem sf_clear {p : Addr} {vs : List V} (hs : σ[i]? = some (some (.ref p))) (a : At G H ([(p, HO.lst vs)] ++ L)) (k : forall H2, At G H2 ([(p, HO.lst [])] ++ L) -> u X σ H2) : tSeq (tDrop (tBM0 K "list" rClear (tVar i))) u X σ H :=
  st_clear (L1 := []) (slot_ref hs) a fun a2 => k _ a2
theorem sf_setL {p : Addr} {vs : List V} {m : Option A} {x : A} {mi : Option Int} {n : Int} {j' : Nat} (h : EvO K te σ G H m) (hm : m = some x) (hs : σ[i]? = some (some (.ref p))) (hi : EvB K tb σ H mi) (hn : mi = some n)
    (a : At G H ([(p, HO.lst vs)] ++ L)) (hj : ixN vs.length n = some j') (k : forall v G2 H2, Gx G G2 -> At G2 H2 ([(p, HO.lst (vs.set j' v))] ++ L) -> rp K G2 v x -> u X σ H2) :
    tSeq (tAsg te (gSub (tVar i) tb rSetL)) u X σ H :=
  st_setL (L1 := []) h hm (slot_ref hs) hi hn a hj fun v G2 H2 g _ a2 r => k v G2 _ g a2 r
/-- a = xs.pop(), and with parts -/
theorem sf_pop {p : Addr} {vs : List V} {xs : List A} {x : A} {g : TG} {b : Bd A} (hs : σ[i]? = some (some (.ref p))) (a : At G H ([(p, HO.lst vs)] ++ L)) (r : Al (rp K G) vs xs) (hx : xs[xs.length - 1]? = some x) (hg : TgL K g b)
    (k : forall σ2 H2, At G H2 ([(p, HO.lst vs.dropLast)] ++ L) -> b x σ G σ2 -> u X σ2 H2) : tSeq (tAsg (tBM0 K "list" rPop (tVar i)) g) u X σ H := by
  have hp := (a.led (p, .lst vs) (by simp)).1
  obtain ⟨v, hv, rv⟩ := r.get hx
  rw [← r.len] at hv
  have a2 : At G (upd H p (.lst vs.dropLast)) ([(p, HO.lst vs.dropLast)] ++ L) := At.set (L1 := []) (L2 := L) a trivial
  exact ⟨_, hs, Or.inl ⟨rfl, vs, SqL.of hp⟩, p, vs, v, rfl, rfl, hp, hv, hg x v σ G _ _ a2.ex rv fun σ2 q => k σ2 _ a2 q⟩
/-! dicts with texts as keys -/
theorem sf_sdnew (a : At G H L) (k : forall p H2, At G H2 ([(p, HO.dK [])] ++ L) -> u X (σ.set i (some (.ref p))) H2) : tSeq (tAsg tDNewK (gName i)) u X σ H :=
  fun p hp => k p _ (a.add hp (o := HO.dK []) trivial)
theorem sf_sput {p : Addr} {kvs : List (Key × V)} {xs : List (Str × A)} {m : Option A} {x : A} {mk : Option Str} {key : Str} (h : EvO K te σ G H m) (hm : m = some x) (hs : σ[i]? = some (some (.ref p))) (hk : EvB K tb σ H mk) (hn : mk = some key)
    (a : At G H ([(p, HO.dK kvs)] ++ L)) (r : Da' (rp K G) kvs xs) (hz : xs.length < 100000) (k : forall kvs2 G2 H2, Gx G G2 -> At G2 H2 ([(p, HO.dK kvs2)] ++ L) -> Da' (rp K G2) kvs2 (sput xs key x) -> u X σ H2) :
    tSeq (sDPut (tVar i) tb te) u X σ H := by
  have hp := (a.led (p, .dK kvs) (by simp)).1
  refine h x hm G H _ Gx.rfl Gx.rfl a _ fun v G2 H2 g e a2 rv => ⟨_, hs, hk key hn H2 e _ fun w H3 e3 rw' => ?_⟩
  cases (show w = V.str key from rw')
  refine ⟨p, _, rfl, DPut.k (k := Sum.inr key) (e3 _ _ (e _ _ hp)) (by rw [r.len]; exact Evl.sz_lt hz), ?_⟩
  exact k (putK kvs (.inr key) v) G2 _ g (At.set (L1 := []) (a2.grow e3) trivial) ((r.mono fun _ _ => Rp.mono g).put rv)
end
end Pu

set_option Elab.async false
set_option linter.all false
set_option maxRecDepth 100000
namespace Pu
open Pu.Rp (rp)
open PySem PySem.Spec PyProof.Rows L2
section
variable {K : Fg} {A B C I : Type} [Rp A] [Rp B] [Rp C] [Rp I]
variable {σ : L2.St} {G G' H H' : Hp} {L : Led} {te ta tb tc : TE} {tt tu : TT} {X : Ends} {t1 t2 u : TS} {i j : Nat} {ms mt : Option Str}
/-- {k: v} of a text and what leans on tuples alone -/
theorem sf_sd1 [Im A] {mk : Option Str} {key : Str} {m : Option A} {x : A} (hk : EvB K ta σ H mk) (hn : mk = some key) (h : EvB K te σ H m) (hm : m = some x) (a : At G H L)
    (k : forall p kvs G2 H2, Gx G G2 -> At G2 H2 ([(p, HO.dK kvs)] ++ L) -> Da' (rp K G2) kvs [(key, x)] -> u X (σ.set i (some (.ref p))) H2) : tSeq (tAsg (tDisp [(ta, te)]) (gName i)) u X σ H := by
  intro p hp
  have e1 : Gx H (upd H p (.dK [])) := Gx.new hp
  refine hk key hn _ e1 _ fun w H1 g1 rw' => h x hm H1 (e1.trans g1) _ fun v H2 e2 r => ?_
  cases (show w = V.str key from rw')
  have hd : H2 p = some (.dK []) := (g1.trans e2) _ _ upd_same
  refine ⟨hd, [(.inr key, v)], rfl, by show 1 ≤ 15; decide, ?_⟩
  have a1 : At G (upd H p (.dK [])) ((p, .dK []) :: L) := a.add hp trivial
  have a2 : At G H2 ([] ++ (p, .dK []) :: L) := a1.grow (g1.trans e2)
  have a3 := a2.set (o' := .dK (mergeK [] [(.inr key, v)])) trivial
  have em : mergeK [] [((.inr key : Key), v)] = [(.inr key, v)] := rfl
  rw [em] at a3 ⊢
  refine k p [(.inr key, v)] (hid (upd H2 p (.dK [(.inr key, v)])) ((p, .dK [(.inr key, v)]) :: L)) _ a3.gh a3.hid ⟨rfl, Im.im (fun b xs hb => a3.tx b xs ?_) r, trivial⟩
  rw [upd_ne (fun z => by rw [z, hd] at hb; cases hb)]
  exact hb
/-! what is walked, at what is frozen -/
def WkO (K : Fg) (J : It) (xs : List I) (S : Hp) : Prop :=
  (forall i H, i < xs.length -> Gx S H -> J.go i H) ∧ (forall H, Gx S H -> J.stop xs.length H) ∧ (forall i G H L v H' x, Gx S G -> At G H L -> xs[i]? = some x -> J.yld i H v H' -> exists G', Gx G G' ∧ At G' H' L ∧ rp K G' v x)
def EvIO (K : Fg) (wi : TI) (σ : L2.St) (G H : Hp) (m : Option (List I)) : Prop :=
  forall xs, m = some xs -> forall G1 H1 L, Gx G G1 -> Gx H H1 -> At G1 H1 L -> forall R : It -> Hp -> Prop, (forall J G2 H2, Gx G1 G2 -> At G2 H2 L -> WkO K J xs G2 -> R J H2) -> wi σ H1 R
theorem wo_seq {a : Addr} {vs : List V} {xs : List A} {S : Hp} (r : Al (rp K S) vs xs) {J : It} (hg : forall i H v, Gx S H -> vs[i]? = some v -> J.go i H) (hs : forall H, Gx S H -> J.stop vs.length H) (hy : forall i H v H', Gx S H -> J.yld i H v H' -> H' = H ∧ vs[i]? = some v) : WkO K J xs S :=
  ⟨fun i H hi e => by
    obtain ⟨v, hv, _⟩ := r.get (List.getElem?_eq_getElem hi)
    exact hg i H v e hv, fun H e => by rw [← r.len]; exact hs H e, fun i G H L v H' x e a hx y => by
    obtain ⟨rfl, hv⟩ := hy i H v H' (e.trans a.ex) y
    obtain ⟨w, hw, rw'⟩ := r.get hx
    rw [hv] at hw
    cases hw
    exact ⟨G, Gx.rfl, a, Rp.mono e rw'⟩⟩
theorem wo_list {a : Addr} {vs : List V} {xs : List A} {S : Hp} (h : S a = some (.lst vs)) (r : Al (rp K S) vs xs) : WkO K (Itl K a) xs S :=
  wo_seq (a := a) r (fun i H v e hv => ⟨vs, v, SqL.of (e _ _ h), hv⟩) (fun H e => ⟨vs, SqL.of (e _ _ h), Nat.le_refl _⟩) fun i H v H' e y => by
    obtain ⟨rfl, y⟩ := y
    exact ⟨rfl, y vs (SqL.of (e _ _ h))⟩
theorem wo_tup {a : Addr} {vs : List V} {xs : List A} {S : Hp} (h : S a = some (.tup vs)) (r : Al (rp K S) vs xs) : WkO K (Itt K a) xs S :=
  wo_seq (a := a) r (fun i H v e hv => ⟨vs, v, SqT.of (e _ _ h), hv⟩) (fun H e => ⟨vs, SqT.of (e _ _ h), Nat.le_refl _⟩) fun i H v H' e y => by
    obtain ⟨rfl, y⟩ := y
    exact ⟨rfl, y vs (SqT.of (e _ _ h))⟩
theorem io_list {ma : Option (List A)} (h : EvO K ta σ G H ma) : EvIO K (iList K ta) σ G H ma := fun xs hx G1 H1 L g e a R q =>
  h xs hx G1 H1 L g e a _ fun v G2 H2 g2 e2 a2 r => by
    obtain ⟨p, vs, rfl, h2, h3⟩ := r
    exact ⟨p, rfl, ⟨vs, SqL.of (a2.ex _ _ h2)⟩, q _ G2 H2 g2 a2 (wo_list h2 h3)⟩
theorem io_tup {ma : Option (Tl A)} (h : EvO K ta σ G H ma) : EvIO K (iTup K ta) σ G H (ma.map Tl.l) := fun xs hx G1 H1 L g e a R q => by
  obtain ⟨x, hx1, rfl⟩ := Option.map_eq_some_iff.mp hx
  refine h x hx1 G1 H1 L g e a _ fun v G2 H2 g2 e2 a2 r => ?_
  obtain ⟨p, vs, rfl, h2, h3⟩ := r
  exact ⟨p, rfl, ⟨vs, SqT.of (a2.ex _ _ h2)⟩, q _ G2 H2 g2 a2 (wo_tup h2 h3)⟩
theorem wo_rng {lo hi : Int} {S : Hp} : WkO K (Itr lo (hi - lo).toNat) (rng lo hi) S := by
  obtain ⟨a, b, c⟩ := wk_rng (K := K) (lo := lo) (hi := hi) (S := fun _ => none)
  refine ⟨fun i H hi' _ => a i H hi' (fun _ _ h => nomatch h), fun H _ => b H (fun _ _ h => nomatch h), fun i G H L v H' x _ a' hx y => ?_⟩
  obtain ⟨rfl, rfl⟩ := y
  exact ⟨G, Gx.rfl, a', by rw [rng_get hx]; rfl⟩
theorem io_rng1 {mi : Option Int} (h : EvB K ta σ H mi) : EvIO K (iRng1 (tCons ta tNil)) σ G H (o1 fRng1 mi) := fun xs hx G1 H1 L g e a R q => by
  obtain ⟨n, e1, e3⟩ := o1s hx
  unfold fRng1 at e3
  split at e3
  · rename_i hj
    cases e3
    refine h n e1 H1 e _ fun v H2 e2 r => ?_
    obtain ⟨h1, h2⟩ := rgOks hj
    have w := wo_rng (K := K) (lo := 0) (hi := n) (S := G1)
    rw [Int.sub_zero] at w
    exact ⟨n, by rw [show v = .int n from r], h1, h2, q _ G1 H2 Gx.rfl (a.grow e2) w⟩
  · cases e3
theorem io_rng2 {mi mj : Option Int} (h : EvB K ta σ H mi) (h' : EvB K tb σ H mj) : EvIO K (iRng2 (tCons ta (tCons tb tNil))) σ G H (o2 fRng2 mi mj) := fun xs hx G1 H1 L g e a R q => by
  obtain ⟨n, m, e1, e2, e3⟩ := o2s hx
  unfold fRng2 at e3
  split at e3
  · rename_i hj
    cases e3
    refine h n e1 H1 e _ fun v H2 g2 r => h' m e2 H2 (e.trans g2) _ fun w H3 g3 r3 => ?_
    obtain ⟨h1, h2⟩ := rgOks hj.1
    obtain ⟨h3, h4⟩ := rgOks hj.2
    exact ⟨n, m, by rw [show v = .int n from r, show w = .int m from r3], ⟨h1, h2, h3, h4⟩, q _ G1 H3 Gx.rfl (a.grow (g2.trans g3)) wo_rng⟩
  · cases e3
theorem wo_enum {a : Addr} {vs : List V} {xs : List A} {S : Hp} (h : S a = some (.lst vs)) (r : Al (rp K S) vs xs) : WkO K (Ite K a) (enum xs) S := by
  obtain ⟨go, stop, _⟩ := wk_enum (K := K) h r
  have w := walk_enum (K := K) (a := a) (xs := vs)
  refine ⟨go, stop, fun i G H L v H' x e ah hx y => ?_⟩
  have hi : i < (enum xs).length := (List.getElem?_eq_some_iff.mp hx).1
  obtain ⟨T, x1, y1, rfl, hT, rfl, f1, f2⟩ := w.yields i H v H' (by rw [r.len, ← enum_len]; exact hi) (SqL.of ((e.trans ah.ex) _ _ h)) y
  unfold enum at hx
  have hz := List.getElem?_zip_eq_some.mp hx
  obtain ⟨v, hv, rv⟩ := r.get hz.2
  have f2' : vs[i]? = some y1 := f2
  have f1' : some (V.int (i : Nat)) = some x1 := f1
  rw [hv] at f2'
  cases f2'; cases f1'
  have g := Gx.new (o := HO.tup [V.int (i : Nat), y1]) (ah.gn hT)
  refine ⟨_, g, ah.both hT, T, _, y1, rfl, upd_same, ?_, Rp.mono (e.trans g) rv⟩
  have h1 := hz.1
  rw [List.getElem?_map] at h1
  obtain ⟨k, hk, e1⟩ := Option.map_eq_some_iff.mp h1
  obtain ⟨_, e2⟩ := List.getElem?_eq_some_iff.mp hk
  rw [List.getElem_range] at e2
  show V.int (i : Nat) = V.int x.1
  rw [← e1, e2]
theorem io_enum {ma : Option (List A)} (h : EvO K ta σ G H ma) : EvIO K (iEnum K (tCons ta tNil)) σ G H (ma.map enum) := fun xs hx G1 H1 L g e a R q => by
  obtain ⟨x, hx1, rfl⟩ := Option.map_eq_some_iff.mp hx
  refine h x hx1 G1 H1 L g e a _ fun v G2 H2 g2 e2 a2 r => ?_
  obtain ⟨p, vs, rfl, h2, h3⟩ := r
  exact ⟨p, vs, rfl, SqL.of (a2.ex _ _ h2), q _ G2 H2 g2 a2 (wo_enum h2 h3)⟩
theorem wo_zip {a b : Addr} {vs ws : List V} {xs : List A} {ys : List B} {S : Hp} (h : S a = some (.lst vs)) (r : Al (rp K S) vs xs) (h' : S b = some (.lst ws)) (r' : Al (rp K S) ws ys) : WkO K (Itz K a b) (xs.zip ys) S := by
  obtain ⟨go, stop, _⟩ := wk_zip (K := K) h r h' r'
  refine ⟨go, stop, fun i G H L v H' x e ah hx y => ?_⟩
  obtain ⟨T, x1, y1, rfl, hT, rfl, f1, f2⟩ := y
  have hz := List.getElem?_zip_eq_some.mp hx
  obtain ⟨v, hv, rv⟩ := r.get hz.1
  obtain ⟨w, hw, rw'⟩ := r'.get hz.2
  have eH := e.trans ah.ex
  have q1 := f1 vs (SqL.of (eH _ _ h))
  have q2 := f2 ws (SqL.of (eH _ _ h'))
  rw [hv] at q1
  rw [hw] at q2
  cases q1; cases q2
  have g := Gx.new (o := HO.tup [x1, y1]) (ah.gn hT)
  exact ⟨_, g, ah.both hT, T, x1, y1, rfl, upd_same, Rp.mono (e.trans g) rv, Rp.mono (e.trans g) rw'⟩
theorem io_zip {ma : Option (List A)} {mb : Option (List B)} (h : EvO K ta σ G H ma) (h' : EvO K tb σ G H mb) : EvIO K (iZip K (tCons ta (tCons tb tNil))) σ G H (o2 fZip ma mb) := fun xs hx G1 H1 L g e a R q => by
  obtain ⟨x, y, e1, e2, e3⟩ := o2s hx
  cases e3
  refine h x e1 G1 H1 L g e a _ fun v G2 H2 g2 h2 a2 r => h' y e2 G2 H2 L (g.trans g2) (e.trans h2) a2 _ fun w G3 H3 g3 h3 a3 r3 => ?_
  obtain ⟨p, vs, rfl, k2, k3⟩ := Rp.mono g3 r
  obtain ⟨p', ws, rfl, k4, k5⟩ := r3
  exact ⟨p, p', vs, ws, rfl, SqL.of (a3.ex _ _ k2), SqL.of (a3.ex _ _ k4), q _ G3 H3 (g2.trans g3) a3 (wo_zip k2 k3 k4 k5)⟩
/-- a loop: first what is walked, then its run by an invariant -/
theorem sf_for {wi : TI} {g : TG} {mx : Option (List I)} {xs : List I} (hi : EvIO K wi σ G H mx) (hx : mx = some xs) (a : At G H L)
    (k : forall J S0 H2, Gx G S0 -> At S0 H2 L -> WkO K J xs S0 -> exists W : Nat -> Nat -> L2.St -> Hp -> Prop, (exists m, W 0 m σ H2) ∧ forall i m σ H, W i m σ H ->
      (J.stop i H ∧ u X σ H) ∨ (J.go i H ∧ exists N : L2.St -> Hp -> Prop, (forall σ' H', N σ' H' -> exists m', m' < m ∧ W (i + 1) m' σ' H') ∧ forall x H', J.yld i H x H' -> g x σ H' fun σ2 H2 => t1 { X with nx := N, ct := N, bk := u X } σ2 H2)) : tSeq (tFor wi g t1) u X σ H :=
  hi xs hx G H L Gx.rfl Gx.rfl a _ fun J S0 H2 g0 a0 wk => k J S0 H2 g0 a0 wk
theorem runO {S R : Type} {J : It} {g : TG} {b : Bd I} {xs : List I} {S0 : Hp} {f : S -> I -> Option (S ⊕ R)} {s0 : S} {res : S ⊕ R} {E0 : Ends} {H2 : Hp} {E1 : L2.St -> Hp -> Prop} (wk : WkO K J xs S0) (hl : loopM f s0 xs = some res) (hg : TgL K g b)
    (In : S -> L2.St -> Hp -> Hp -> Led -> Prop) (hA : forall s σ' G' H' L', In s σ' G' H' L' -> Gx S0 G' ∧ At G' H' L') (h0 : In s0 σ G H2 L)
    (hs : forall s x o σ' G' H' L' G2 H2 σ2, x ∈ xs -> f s x = some o -> (forall r, o = .inr r -> res = .inr r) -> In s σ' G' H' L' -> Gx G' G2 -> At G2 H2 L' -> b x σ' G2 σ2 ->
      t1 { E0 with nx := fun σ H => exists s' G L, o = .inl s' ∧ In s' σ G H L, ct := fun σ H => exists s' G L, o = .inl s' ∧ In s' σ G H L, bk := E1 } σ2 H2)
    (hd : forall s1 σ' G' H' L', res = .inl s1 -> In s1 σ' G' H' L' -> E1 σ' H') :
    exists W : Nat -> Nat -> L2.St -> Hp -> Prop, (exists m, W 0 m σ H2) ∧ forall i m σ H, W i m σ H ->
      (J.stop i H ∧ E1 σ H) ∨ (J.go i H ∧ exists N : L2.St -> Hp -> Prop, (forall σ' H', N σ' H' -> exists m', m' < m ∧ W (i + 1) m' σ' H') ∧ forall x H', J.yld i H x H' -> g x σ H' fun σ2 H2 => t1 { E0 with nx := N, ct := N, bk := E1 } σ2 H2) := by
  obtain ⟨go, stop, yld⟩ := wk
  refine ⟨fun i m σ H => m = xs.length - i ∧ i ≤ xs.length ∧ exists s G' L', In s σ G' H L' ∧ loopM f s (xs.drop i) = some res, ⟨xs.length, by simp, Nat.zero_le _, s0, G, L, h0, hl⟩, ?_⟩
  rintro i m σ' Hc ⟨rfl, hle, s, Gc, Lc, hin, hm⟩
  obtain ⟨gS, aC⟩ := hA _ _ _ _ _ hin
  have eS := gS.trans aC.ex
  by_cases hlt : i < xs.length
  · rw [List.drop_eq_getElem_cons hlt] at hm
    cases hf : f s xs[i] with
    | none => unfold loopM at hm; rw [hf] at hm; cases hm
    | some o =>
      have hm' : bra (fun s' => loopM f s' (xs.drop (i + 1))) o = some res := by
        unfold loopM at hm; rw [hf] at hm; exact hm
      refine .inr ⟨go i Hc hlt eS, fun σ H => exists s' G L, o = .inl s' ∧ In s' σ G H L, fun σ3 H3 hN => ?_, fun v Hy hy => ?_⟩
      · obtain ⟨s', G3, L3, rfl, h3⟩ := hN
        exact ⟨xs.length - (i + 1), by omega, rfl, hlt, s', G3, L3, h3, hm'⟩
      · obtain ⟨G2, g2, a2, ry⟩ := yld i Gc Hc Lc v Hy _ gS aC (List.getElem?_eq_getElem hlt) hy
        refine hg _ v σ' G2 Hy _ a2.ex ry fun σ2 hσ => hs s xs[i] o σ' Gc Hc Lc G2 Hy σ2 (List.getElem_mem hlt) hf (fun r er => ?_) hin g2 a2 hσ
        subst er
        exact (Option.some.inj hm').symm
  · have hi : i = xs.length := by omega
    subst hi
    rw [List.drop_length] at hm
    exact .inl ⟨stop Hc eS, hd s σ' Gc Hc Lc (Option.some.inj hm).symm hin⟩
/-- .. that is left by its end alone -/
theorem foldO_run {S : Type} {J : It} {g : TG} {b : Bd I} {xs : List I} {S0 : Hp} {f : S -> I -> Option S} {s0 s1 : S} {E0 : Ends} {H2 : Hp} {E1 : L2.St -> Hp -> Prop} (wk : WkO K J xs S0) (hl : foldO f s0 xs = some s1) (hg : TgL K g b)
    (In : S -> L2.St -> Hp -> Hp -> Led -> Prop) (hA : forall s σ' G' H' L', In s σ' G' H' L' -> Gx S0 G' ∧ At G' H' L') (h0 : In s0 σ G H2 L)
    (hs : forall s x s' σ' G' H' L' G2 H2 σ2, x ∈ xs -> f s x = some s' -> In s σ' G' H' L' -> Gx G' G2 -> At G2 H2 L' -> b x σ' G2 σ2 ->
      t1 { E0 with nx := fun σ H => exists G L, In s' σ G H L, ct := fun σ H => exists G L, In s' σ G H L, bk := E1 } σ2 H2)
    (hd : forall σ' G' H' L', In s1 σ' G' H' L' -> E1 σ' H') :
    exists W : Nat -> Nat -> L2.St -> Hp -> Prop, (exists m, W 0 m σ H2) ∧ forall i m σ H, W i m σ H ->
      (J.stop i H ∧ E1 σ H) ∨ (J.go i H ∧ exists N : L2.St -> Hp -> Prop, (forall σ' H', N σ' H' -> exists m', m' < m ∧ W (i + 1) m' σ' H') ∧ forall x H', J.yld i H x H' -> g x σ H' fun σ2 H2 => t1 { E0 with nx := N, ct := N, bk := E1 } σ2 H2) := by
  obtain ⟨go, stop, yld⟩ := wk
  refine ⟨fun i m σ H => m = xs.length - i ∧ i ≤ xs.length ∧ exists s G' L', In s σ G' H L' ∧ foldO f s (xs.drop i) = some s1, ⟨xs.length, by simp, Nat.zero_le _, s0, G, L, h0, hl⟩, ?_⟩
  rintro i m σ' Hc ⟨rfl, hle, s, Gc, Lc, hin, hm⟩
  obtain ⟨gS, aC⟩ := hA _ _ _ _ _ hin
  have eS := gS.trans aC.ex
  by_cases hlt : i < xs.length
  · rw [List.drop_eq_getElem_cons hlt] at hm
    cases hf : f s xs[i] with
    | none => unfold foldO at hm; rw [hf] at hm; cases hm
    | some s' =>
      have hm' : foldO f s' (xs.drop (i + 1)) = some s1 := by
        unfold foldO at hm; rw [hf] at hm; exact hm
      refine .inr ⟨go i Hc hlt eS, fun σ H => exists G L, In s' σ G H L, fun σ3 H3 ⟨G3, L3, h3⟩ => ⟨xs.length - (i + 1), by omega, rfl, hlt, s', G3, L3, h3, hm'⟩, fun v Hy hy => ?_⟩
      obtain ⟨G2, g2, a2, ry⟩ := yld i Gc Hc Lc v Hy _ gS aC (List.getElem?_eq_getElem hlt) hy
      exact hg _ v σ' G2 Hy _ a2.ex ry fun σ2 hσ => hs s xs[i] s' σ' Gc Hc Lc G2 Hy σ2 (List.getElem_mem hlt) hf hin g2 a2 hσ
  · have hi : i = xs.length := by omega
    subst hi
    rw [List.drop_length] at hm
    cases hm
    exact .inl ⟨stop Hc eS, hd σ' Gc Hc Lc hin⟩
end
end Pu

set_option Elab.async false
set_option linter.all false
set_option maxRecDepth 100000
namespace Pu
open Pu.Rp (rp)
open PySem PySem.Spec PyProof.Rows L2
def fSput {B : Type} (d : List (Str × B)) (k : Str) (x : B) : Option (List (Str × B)) := if d.length < 100000 then some (sput d k x) else none
theorem fSputs {B : Type} {d r : List (Str × B)} {k : Str} {x : B} (h : fSput d k x = some r) : r = sput d k x ∧ d.length < 100000 := by
  unfold fSput at h
  split at h
  · cases h; exact ⟨rfl, by assumption⟩
  · cases h
section
variable {K : Fg} {A B C D : Type} [Rp A] [Rp B] [Rp C] [Rp D] {σ : L2.St} {G H : Hp} {L : Led} {te ta tb tc : TE} {ma : Option A} {mb : Option B} {mc : Option C} {X : Cx} {W : String -> Hp -> Prop}
theorem sd_rp {p : Addr} {kvs : List (Key × V)} {xs : List (Str × A)} (a : At G H L) (hp : (p, HO.dK kvs) ∈ L) (r : Da' (rp K G) kvs xs) : rp K H (.ref p) (⟨xs⟩ : Ds A) :=
  ⟨p, kvs, rfl, .inl (a.led _ hp).1, r.mono fun _ _ => Rp.mono a.ex⟩
/-! objects -/
/-- what is asked of an object's kind: its class's name, and that m is no attribute -/
def NoM (A : Type) [Rp A] (cn : String) (m : Str) : Prop := forall {K : Fg} {H : Hp} {v : V} {x : A}, rp K H v x -> exists a C dx fs, v = .ref a ∧ isC K cn C ∧ H a = some (.ins C dx fs) ∧ fs.lookup m = none
/-- .. and that f is one, which holds get x -/
def Att (A : Type) {B : Type} [Rp A] [Rp B] (cn : String) (f : Str) (get : A -> B) : Prop := forall {K : Fg} {H : Hp} {v : V} {x : A}, rp K H v x -> exists a C dx fs u, v = .ref a ∧ isC K cn C ∧ H a = some (.ins C dx fs) ∧ fs.lookup f = some u ∧ rp K H u (get x)
theorem x_att {cn : String} {f : Str} {get : A -> B} {Cc : Addr} (h : Att A cn f get) (iC : isC K cn Cc) (cl : Cls K Cc) (na : NoAttr K Cc f) (ha : EvB K ta σ H ma) : EvB K (tFld K ta f) σ H (ma.map get) := fun x hx H1 e Q q => by
  obtain ⟨y, hy, rfl⟩ := Option.map_eq_some_iff.mp hx
  refine ha y hy H1 e _ fun v H2 g r => ?_
  obtain ⟨a, C', dx, fs, u, rfl, i2, h2, h3, h4⟩ := h r
  cases isC.uniq i2 iC
  exact ⟨a, _, dx, fs, u, rfl, h2, cl, na, h3, q u H2 g h4⟩
theorem eo_att {cn : String} {f : Str} {get : A -> B} {Cc : Addr} (h : Att A cn f get) (iC : isC K cn Cc) (cl : Cls K Cc) (na : NoAttr K Cc f) (ha : EvO K ta σ G H ma) : EvO K (tFld K ta f) σ G H (ma.map get) := fun x hx G1 H1 L g e a Q q => by
  obtain ⟨y, hy, rfl⟩ := Option.map_eq_some_iff.mp hx
  refine ha y hy G1 H1 L g e a _ fun v G2 H2 g2 e2 a2 r => ?_
  obtain ⟨p, C', dx, fs, u, rfl, i2, h2, h3, h4⟩ := h r
  cases isC.uniq i2 iC
  exact ⟨p, _, dx, fs, u, rfl, a2.ex _ _ h2, cl, na, h3, q u G2 H2 g2 e2 a2 h4⟩
section
variable {cn : String} {m : Str} {Cc : Addr} {E : XK} (hn : NoM A cn m) (iC : isC K cn Cc)
include hn iC
theorem meth_run {R : Type} {t : TA} {F : List V -> Hp -> Prop} {sp : Sp} (ha : EvB K ta σ H ma) {x : A} (hx : ma = some x) {H1 : Hp} (e : Gx H H1) {Q : VK}
    (ht : forall a H2, Gx H1 H2 -> rp K H2 (.ref a) x -> t σ H2 fun vs H3 => sp (.ref a :: (vs ++ [])) H3 Q E) : tMeth Cc m sp [] E ta t σ H1 Q :=
  ha x hx H1 e _ fun v H2 g r => by
    obtain ⟨a, C', dx, fs, rfl, i2, h2, h3⟩ := hn r
    cases isC.uniq i2 iC
    exact ⟨a, dx, fs, rfl, h2, h3, ht a H2 g r⟩
theorem x_m0 {f : A -> Option D} (ha : EvB K ta σ H ma) : EvB K (tMeth Cc m (PSb K (A1 K f)) [] E ta tNil) σ H (o1 f ma) := fun x hx H1 e Q q => by
  obtain ⟨y, e1, e3⟩ := o1s hx
  exact meth_run (R := D) (F := fun _ _ => True) hn iC ha e1 e fun a H2 g r => ⟨x, ⟨_, y, rfl, r, e3⟩, fun w H3 g3 r3 => q w H3 (g.trans g3) r3⟩
theorem n_m0 {f : A -> Option (List D)} (ha : EvB K ta σ H ma) : EvN K (tMeth Cc m (PSn K (A1 K f)) [] E ta tNil) σ H (o1 f ma) := fun x hx H1 e Q q => by
  obtain ⟨y, e1, e3⟩ := o1s hx
  exact meth_run (R := D) (F := fun _ _ => True) hn iC ha e1 e fun a H2 g r => ⟨x, ⟨_, y, rfl, r, e3⟩, fun p ws H3 hp g3 h3 r3 => q p ws H3 (g.back hp) (g.trans g3) h3 r3⟩
theorem x_m1 {f : A -> B -> Option D} (ha : EvB K ta σ H ma) (hb : EvB K tb σ H mb) : EvB K (tMeth Cc m (PSb K (A2 K f)) [] E ta (tCons tb tNil)) σ H (o2 f ma mb) := fun x hx H1 e Q q => by
  obtain ⟨y, z, e1, e2, e3⟩ := o2s hx
  exact meth_run (R := D) (F := fun _ _ => True) hn iC ha e1 e fun a H2 g r => hb z e2 H2 (e.trans g) _ fun w H3 g3 r3 => ⟨x, ⟨_, w, y, z, rfl, Rp.mono g3 r, r3, e3⟩, fun u H4 g4 r4 => q u H4 ((g.trans g3).trans g4) r4⟩
theorem n_m1 {f : A -> B -> Option (List D)} (ha : EvB K ta σ H ma) (hb : EvB K tb σ H mb) : EvN K (tMeth Cc m (PSn K (A2 K f)) [] E ta (tCons tb tNil)) σ H (o2 f ma mb) := fun x hx H1 e Q q => by
  obtain ⟨y, z, e1, e2, e3⟩ := o2s hx
  exact meth_run (R := D) (F := fun _ _ => True) hn iC ha e1 e fun a H2 g r => hb z e2 H2 (e.trans g) _ fun w H3 g3 r3 => ⟨x, ⟨_, w, y, z, rfl, Rp.mono g3 r, r3, e3⟩, fun p ws H4 hp g4 h4 r4 => q p ws H4 ((g.trans g3).back hp) ((g.trans g3).trans g4) h4 r4⟩
/-- of a def that may raise -/
theorem er_m1 {f : A -> B -> Option (D ⊕ String)} (ha : EvB K ta σ H ma) (hb : EvB K tb σ H mb) : EvR K (tMeth Cc m (PSx K (A2 K f)) [] E ta (tCons tb tNil)) σ H (WC K (fun _ => E) σ) (o2 f ma mb) := fun o ho H1 e Q q w => by
  obtain ⟨y, z, e1, e2, e3⟩ := o2s ho
  exact meth_run (R := D) (F := fun _ _ => True) hn iC ha e1 e fun a H2 g r => hb z e2 H2 (e.trans g) _ fun v H3 g3 r3 =>
    ⟨o, ⟨_, v, y, z, rfl, Rp.mono g3 r, r3, e3⟩, fun x hx u H4 g4 r4 => q x u H4 hx ((g.trans g3).trans g4) r4, fun c hc C H4 iC g4 => w c H4 hc ((g.trans g3).trans g4) C iC⟩
end
/-- a promise of a new list, or an error -/
def PSy {R : Type} [Rp R] (K : Fg) (m : List V -> Hp -> Option (List R ⊕ String) -> Prop) : Sp := fun vs H Q E => exists r, m vs H (some r) ∧ (forall x, r = .inl x -> forall p ws H2, H p = none -> Gx H H2 -> H2 p = some (.lst ws) -> Al (rp K H2) ws x -> Q (.ref p) H2) ∧ (forall c, r = .inr c -> forall C H2, isC K c C -> Gx H H2 -> E (.ref C) none H2)
/-- a new list, where nothing is raised -/
theorem n_y1 {cn : String} {m : Str} {Cc : Addr} {E : XK} (hn : NoM A cn m) (iC : isC K cn Cc) {f : A -> B -> Option (List D ⊕ String)} (ha : EvB K ta σ H ma) (hb : EvB K tb σ H mb) : EvN K (tMeth Cc m (PSy K (A2 K f)) [] E ta (tCons tb tNil)) σ H ((o2 f ma mb).bind getL) := fun x hx H1 e Q q => by
  obtain ⟨o, ho, hx⟩ := bnd hx
  cases o with
  | inr c => cases hx
  | inl y =>
    cases hx
    obtain ⟨y, z, e1, e2, e3⟩ := o2s ho
    exact meth_run (R := D) (F := fun _ _ => True) hn iC ha e1 e fun a H2 g r => hb z e2 H2 (e.trans g) _ fun v H3 g3 r3 =>
      ⟨_, ⟨_, v, y, z, rfl, Rp.mono g3 r, r3, e3⟩, fun x hx p ws H4 hp g4 h4 r4 => by cases hx; exact q p ws H4 ((g.trans g3).back hp) ((g.trans g3).trans g4) h4 r4, fun c hc => nomatch hc⟩
theorem heapY {R : Type} [Rp R] {Q : VK} {E : XK} {r : List R ⊕ String} {H : Hp} (qn : forall x, r = .inl x -> forall p ws H2, H p = none -> Gx H H2 -> H2 p = some (.lst ws) -> Al (rp K H2) ws x -> Q (.ref p) H2) (qx : forall c, r = .inr c -> forall C H2, isC K c C -> Gx H H2 -> E (.ref C) none H2) :
    exists H0, Gx H0 H ∧ (forall x, r = .inl x -> forall p ws H2, H0 p = none -> Gx H0 H2 -> H2 p = some (.lst ws) -> Al (rp K H2) ws x -> Q (.ref p) H2) ∧ (forall c, r = .inr c -> forall C H2, isC K c C -> Gx H0 H2 -> E (.ref C) none H2) := ⟨H, Gx.rfl, qn, qx⟩
end
/-! folk -/
structure FolkS where
  names : List Str
  rows : List (Str × List Str)
  deriving DecidableEq
theorem fk1 : ¬ (("names" : Str) = "members") := by decide +kernel
def folkF (u w : V) : List (Str × V) := [(("names" : Str), u), (("members" : Str), w)]
instance : Rp FolkS where
  rp K H v x := exists a C dx u d kvs, v = .ref a ∧ isC K "Folk" C ∧ H a = some (.ins C dx (folkF u (.ref d))) ∧ rp K H u (⟨x.names⟩ : Tl Str) ∧ H d = some (.dK kvs) ∧ Da' (rp K H) kvs x.rows
  mono e := fun ⟨a, C, dx, u, d, kvs, h1, h2, h3, h4, h5, h6⟩ => ⟨a, C, dx, u, d, kvs, h1, h2, e _ _ h3, Rp.mono e h4, e _ _ h5, h6.mono fun _ _ => Rp.mono e⟩
theorem folkF_none {m : Str} {u w : V} (h : ¬ m = "names" ∧ ¬ m = "members") : (folkF u w).lookup m = none := by
  have e1 : (m == ("names" : Str)) = false := by simpa using h.1
  have e2 : (m == ("members" : Str)) = false := by simpa using h.2
  simp [folkF, List.lookup, e1, e2]
theorem folkF_mem {u w : V} : (folkF u w).lookup ("members" : Str) = some w := by
  have e : (("members" : Str) == ("names" : Str)) = false := by simpa using fun z => fk1 z.symm
  simp [folkF, List.lookup, e]
theorem folk_nm {m : Str} (h : ¬ m = "names" ∧ ¬ m = "members") : NoM FolkS "Folk" m := fun {K H v x} ⟨a, C, dx, u, d, kvs, h1, h2, h3, _⟩ => ⟨a, C, dx, _, h1, h2, h3, folkF_none h⟩
theorem folk_names : Att FolkS "Folk" "names" (fun x => (⟨x.names⟩ : Tl Str)) := fun {K H v x} ⟨a, C, dx, u, d, kvs, h1, h2, h3, h4, _⟩ => ⟨a, C, dx, _, u, h1, h2, h3, by simp [folkF, List.lookup], h4⟩
theorem folk_members : Att FolkS "Folk" "members" (fun x => (⟨x.rows⟩ : Ds (List Str))) := fun {K H v x} ⟨a, C, dx, u, d, kvs, h1, h2, h3, _, h5, h6⟩ => ⟨a, C, dx, _, .ref d, h1, h2, h3, folkF_mem, ⟨d, kvs, rfl, .inl h5, h6⟩⟩
end Pu

set_option Elab.async false
set_option linter.all false
set_option maxRecDepth 100000
namespace Pu
open Pu.Rp (rp)
open PySem PySem.Spec PyProof.Rows L2
section
variable {K : Fg} {A B C D : Type} [Rp A] [Rp B] [Rp C] [Rp D] {σ : L2.St} {G H : Hp} {L : Led} {te ta tb tc : TE} {ma : Option A} {mb : Option B} {mc : Option C} {mi mj : Option Int} {ms mt : Option Str} {X : Cx}
def fIxScr (x : Scr) (i : Int) : Option Int := ix x.l i
theorem x_ixScr {ma : Option Scr} (ha : EvB K ta σ H ma) (hb : EvB K tb σ H mj) : EvB K (tOp (rIxL K) ta tb) σ H (o2 fIxScr ma mj) := eb_op (fun H x y a b c ra rb hc Q q => by
  obtain ⟨p, rfl, h2⟩ := ra
  have h3 : Al (rp K H) (a.l.map V.int) a.l := by
    induction a.l with
    | nil => trivial
    | cons z zs ih => exact ⟨rfl, ih⟩
  obtain ⟨v, h4, h5⟩ := al_at h3 hc
  exact ⟨p, _, b, v, rfl, rb, h2, h4, q v H Gx.rfl h5⟩) ha hb
def fLenX (x : Str) : Option Int := if x.length ≤ 100000 then some (x.length : Int) else none
theorem x_lenX (ha : EvB K ta σ H ms) : EvB K (tCB (fun xs H Q => ∃ z : Str, xs = [.str z] ∧ z.length ≤ sizeLine ∧ Q (.int z.length) H) (tCons ta tNil)) σ H (o1 fLenX ms) :=
  call1 (fun H v x c r hc Q q => by
    unfold fLenX at hc
    split at hc
    · cases hc
      cases (show v = V.str x from r)
      exact ⟨x, rfl, Evl.sz_of (by assumption), q _ H Gx.rfl rfl⟩
    · cases hc) ha
theorem en_if {tt : TT} {mc : Option Bool} {ma mb : Option (List A)} (hc : EvT tt σ H mc) (ha : EvN K ta σ H ma) (hb : EvN K tb σ H mb) : EvN K (tIf tt ta tb) σ H (oIf mc ma mb) := fun x hx H1 e Q q => by
  cases mc with
  | none => cases hx
  | some c =>
    refine hc c rfl H1 e _ fun H2 g2 => ?_
    cases c with
    | true => exact ite_tt (ha x hx H2 (e.trans g2) Q fun p vs H3 hn g3 h3 r3 => q p vs H3 (g2.back hn) (g2.trans g3) h3 r3)
    | false => exact ite_ff (hb x hx H2 (e.trans g2) Q fun p vs H3 hn g3 h3 r3 => q p vs H3 (g2.back hn) (g2.trans g3) h3 r3)
theorem eo_getD {ma : Option (Ds A)} (ha : EvO K ta σ G H ma) (hb : EvB K tb σ H ms) : EvO K (tDGet ta tb) σ G H (o2 fGetD ma ms) := fun x hx G1 H1 L g e a Q q => by
  obtain ⟨d, k, e1, e2, e3⟩ := o2s hx
  refine ha d e1 G1 H1 L g e a _ fun v G2 H2 g2 h2' a2 r2 => hb k e2 H2 (e.trans h2') _ fun w H3 g3 r3 => ?_
  cases (show w = V.str k from r3)
  have a3 := a2.grow g3
  obtain ⟨p, kvs, rfl, h2, h3⟩ := r2
  rcases h3.get k with ⟨z1, z2⟩ | ⟨v, y, z1, z2, z3⟩
  · rw [show fGetD d k = sget d.l k from rfl, z2] at e3; cases e3
  · rw [show fGetD d k = sget d.l k from rfl, z2] at e3; cases e3
    exact ⟨p, v, rfl, z1 ▸ (show DGet _ _ (V.str k) (valV kvs (.inr k)) from .inl ⟨kvs, Sum.inr k, a3.ex.rd h2, rfl, rfl⟩), q v G2 H3 g2 (h2'.trans g3) a3 z3⟩
theorem eo_get2 {ma : Option (Ds A)} {mc : Option A} (ha : EvO K ta σ G H ma) (hb : EvB K tb σ H ms) (hc : EvO K tc σ G H mc) : EvO K (tDGet2 ta tb tc) σ G H (o3 fGet2 ma ms mc) := fun x hx G1 H1 L g e a Q q => by
  obtain ⟨d, k, y, e1, e2, e2', e3⟩ := o3s hx
  cases e3
  refine ha d e1 G1 H1 L g e a _ fun v G2 H2 g2 h2' a2 r2 => ?_
  obtain ⟨p, kvs, rfl, h2, h3⟩ := r2
  refine ⟨p, rfl, .inl ⟨kvs, a2.ex.rd h2⟩, hb k e2 H2 (e.trans h2') _ fun w H3 g3 r3 => hc y e2' G2 H3 L (g.trans g2) ((e.trans h2').trans g3) (a2.grow g3) _ fun z G4 H4 g4 h4 a4 r4 => ?_⟩
  cases (show w = V.str k from r3)
  refine ⟨_, .inl ⟨kvs, Sum.inr k, a4.ex.rd (g4.rd h2), rfl, rfl⟩, ?_⟩
  have h5 := h3.mono fun _ _ => Rp.mono g4
  rcases h5.get k with ⟨z1, z2⟩ | ⟨v, y', z1, z2, z3⟩
  · rw [z1]
    rw [z2] at q
    exact q z G4 H4 (g2.trans g4) ((h2'.trans g3).trans h4) a4 r4
  · rw [z1]
    rw [z2] at q
    exact q v G4 H4 (g2.trans g4) ((h2'.trans g3).trans h4) a4 z3
theorem mtjoin_K (h : X.K = K) : MtR X "str.join" (fun x xs H Q => ∃ a p, ∃ ys : List Str, x = .str a ∧ xs = [.ref p] ∧ (SqL K H p (ys.map V.str) ∨ SqT K H p (ys.map V.str)) ∧ (ys.map (·.length)).sum + ys.length * a.length ≤ 16777216 ∧ Q (.str (Txt.join a ys)) H) := h ▸ mt_join
end
end Pu

set_option Elab.async false
set_option linter.all false
set_option maxRecDepth 100000
namespace Pu
open Pu.Rp (rp)
open PySem PySem.Spec PyProof.Rows L2
/-! xs.remove(t), xs a list of texts -/
def eqs (k : Str) (v : Value) : Bool := match v with
  | .str n _ => n == k
  | _ => false
theorem eqs_gives {k : Str} {t : Tok} : forall {ns : List Str} {us : List Value}, Vals (ns.map V.str) us -> forall y, y ∈ us -> MeetsSeq.EqGives y (.str k t) (eqs k y)
  | [], us, r => by cases r; intro y hy; cases hy
  | n :: ns, us, r => by
    cases r with
    | cons h tl =>
      intro y hy
      rcases List.mem_cons.mp hy with e | e
      · subst e
        obtain ⟨t', e⟩ := h
        subst e
        exact eqGives_str n k t' t
      · exact eqs_gives tl y e
theorem erase_mapS : forall (l : List Str) (j : Nat), (l.map V.str).eraseIdx j = (l.eraseIdx j).map V.str
  | [], j => by simp
  | a :: r, 0 => by simp
  | a :: r, j + 1 => by
    have ih := erase_mapS r j
    simp [ih]
def rRemS : V → List V → Hp → VK → Prop := fun x xs H Q => exists (l : Addr) (ns : List Str) (k : Str) (j : Nat), x = .ref l ∧ xs = [.str k] ∧ H l = some (.lst (ns.map V.str)) ∧ ns[j]? = some k ∧ (forall m : Nat, m < j -> ns[m]? ≠ some k) ∧ Q .non (upd H l (.lst ((ns.eraseIdx j).map V.str)))
theorem mt_removeS {X : Cx} : MtM X "list.remove" rRemS := by
  intro pins s σ H x xs v us Q I rx rxs h
  obtain ⟨l, ns, k, j, rfl, rfl, hH, hj, hno, q⟩ := h
  cases (show v = Value.ref l from rx)
  obtain ⟨u, rfl, ru⟩ := rxs.one
  obtain ⟨t, rfl⟩ := ru
  obtain ⟨z, its, n, r, hl, e⟩ := I.lstM hH
  rw [List.length_map] at hl z
  have hjn : j < ns.length := (List.getElem?_eq_some_iff.mp hj).1
  have hjl : j < its.toArray.size := by rw [List.size_toArray]; omega
  have at_ : forall (i : Nat) (x : Str), ns[i]? = some x -> exists t, its[i]? = some (.str x t) := fun i x hx => by
    obtain ⟨u, h1, t', h2⟩ := r.get (i := i) (x := V.str x) (by rw [List.getElem?_map, hx]; rfl)
    exact ⟨t', by rw [h1, h2]⟩
  refine call_meets PySem.F.slot_list_remove ⟨_, e, rfl⟩ PySem.F.entry_list_remove (PySem.F.args_list_remove_2 _ _)
    (MeetsSeq.list_remove l its.toArray n (.str k t) (eqs k) (fun y hy => eqs_gives r y (by simpa using hy)) j hjl ?_ ?_ (by rw [List.size_toArray]; omega)) ⟨e, ?_⟩
  · obtain ⟨tj, hjt⟩ := at_ j k hj
    obtain ⟨h1, h2⟩ := List.getElem?_eq_some_iff.mp hjt
    have e1 : its.toArray[j] = .str k tj := by simpa using h2
    rw [e1]
    exact beq_self_eq_true k
  · intro m hm hmj
    have hmn : m < ns.length := by omega
    obtain ⟨tm, hmt⟩ := at_ m _ (List.getElem?_eq_getElem hmn)
    obtain ⟨h1, h2⟩ := List.getElem?_eq_some_iff.mp hmt
    have e1 : its.toArray[m] = .str ns[m] tm := by simpa using h2
    rw [e1]
    refine beq_eq_false_iff_ne.mpr fun e2 => hno m hmj ?_
    rw [List.getElem?_eq_getElem hmn, e2]
  · have rr := r.eraseIdx j
    rw [erase_mapS] at rr
    refine ⟨.non, _, I.lset (its' := its.eraseIdx j) (t' := s.toks) hH e ?_ rr ?_, rfl, q⟩
    · show its.toArray.eraseIdxIfInBounds j = (its.eraseIdx j).toArray
      rw [List.eraseIdxIfInBounds_toArray]
    · have z2 := len_erase ns j
      rw [List.length_map]
      omega
end Pu

set_option Elab.async false
set_option linter.all false
set_option maxRecDepth 100000
namespace Pu
open Pu.Rp (rp)
open PySem PySem.Spec PyProof.Rows L2
section
variable {K : Fg} {A B C I : Type} [Rp A] [Rp B] [Rp C] [Rp I]
variable {σ : L2.St} {G G' H H' : Hp} {L L' : Led} {te ta tb tc : TE} {tt tu : TT} {X : Ends} {t1 t2 u : TS} {i j : Nat} {d : Addr} {od : Obj} {kvs : List (Key × V)}
/-! a walk over d.items() -/
theorem da_get {F : V -> A -> Prop} : forall {kvs : List (Key × V)} {rows : List (Str × A)} {i : Nat} {x : Str × A}, Da' F kvs rows -> rows[i]? = some x -> exists v, kvs[i]? = some (.inr x.1, v) ∧ F v x.2
  | [], [], i, x, _, h => by simp at h
  | p :: r, y :: ys, 0, x, ⟨h1, h2, _⟩, h => by
    simp at h; subst h
    obtain ⟨k, v⟩ := p
    cases h1
    exact ⟨v, rfl, h2⟩
  | p :: r, y :: ys, i + 1, x, ⟨_, _, h3⟩, h => by
    obtain ⟨v, e, f⟩ := da_get (i := i) h3 (by simpa using h)
    exact ⟨v, by simpa using e, f⟩
  | [], y :: ys, i, x, r, h => False.elim r
theorem wo_items {rows : List (Str × A)} {S : Hp} (h : S d = some (.frz od (.dK kvs))) (r : Da' (rp K S) kvs rows) : WkO K (Iti d od kvs) rows S :=
  ⟨fun i H hi e => ⟨e _ _ h, by rw [r.len]; exact hi⟩, fun H e => ⟨e _ _ h, by rw [r.len]; exact Nat.le_refl _⟩, fun i G H L v H' x e ah hx y => by
    obtain ⟨T, k, v, hk, rfl, hT, rfl⟩ := y
    obtain ⟨v', hv, rv⟩ := da_get r hx
    rw [hv] at hk
    cases hk
    have g := Gx.new (o := HO.tup [kV (.inr x.1), v]) (ah.gn hT)
    exact ⟨_, g, ah.both hT, T, _, v, rfl, upd_same, rfl, Rp.mono (e.trans g) rv⟩⟩
theorem lockG (hd : G d = some (.dK kvs)) : Tx G (upd G d (.frz od (.dK kvs))) := fun a xs h => by
  rw [upd_ne (fun z => by rw [z, hd] at h; cases h)]; exact h
theorem lock_lst [Im A] (hd : G d = some (.dK kvs)) {v : V} {xs : List A} (r : rp K G v xs) : rp K (upd G d (.frz od (.dK kvs))) v xs := by
  obtain ⟨p, vs, rfl, h2, h3⟩ := r
  exact ⟨p, vs, rfl, by rw [upd_ne (fun z => by rw [z, hd] at h2; cases h2)]; exact h2, h3.mono fun _ _ => Im.im (lockG hd)⟩
theorem lock_at {o' : HO} {o : HO} (hd : G d = some o) (a : At G H L) : At (upd G d o') (upd H d o') L := by
  refine ⟨fun x o h => ?_, a.nd, fun p hp => ?_⟩
  · by_cases e : x = d
    · subst e; rw [upd_same] at h ⊢; exact h
    · rw [upd_ne e] at h ⊢; exact a.ex _ _ h
  · obtain ⟨h1, h2, h3⟩ := a.led p hp
    have e : p.1 ≠ d := fun z => by rw [z, hd] at h2; cases h2
    rw [upd_ne e, upd_ne e]
    exact ⟨h1, h2, h3⟩
theorem unlk (hG : G d = some (.dK kvs)) (gL : Gx (upd G d (.frz od (.dK kvs))) G') (a : At G' H' L') :
    At (upd G' d (.dK kvs)) (upd H' d (.dK kvs)) L' ∧ Gx G (upd G' d (.dK kvs)) ∧ H' d = some (.frz od (.dK kvs)) ∧ Tx G' (upd G' d (.dK kvs)) := by
  have h1 : G' d = some (.frz od (.dK kvs)) := gL _ _ upd_same
  refine ⟨lock_at h1 a, fun x o h => ?_, a.ex _ _ h1, fun x xs h => ?_⟩
  · by_cases e : x = d
    · subst e; rw [hG] at h; cases h; exact upd_same
    · rw [upd_ne e]; exact gL _ _ (by rw [upd_ne e]; exact h)
  · rw [upd_ne (fun z => by rw [z, h1] at h; cases h)]; exact h
abbrev lkE (X : Ends) (u : TS) (d : Addr) (o : HO) (o' : HO) : Ends :=
  ⟨fun σ' H' => H' d = some o ∧ u X σ' (upd H' d o'), fun v H' => H' d = some o ∧ X.rt v (upd H' d o'), fun σ' H' => H' d = some o ∧ X.bk σ' (upd H' d o'), fun σ' H' => H' d = some o ∧ X.ct σ' (upd H' d o')⟩
theorem folk_items {g : TG} {v : V} {x : FolkS} {Cc : Addr} (a : At G H L) (r : rp K G v x) (hs : σ[i]? = some (some v)) (iC : isC K "Folk" Cc) (cl : Cls K Cc) (na : NoAttr K Cc "members")
    (k : forall d kvs od, G d = some (.dK kvs) -> At (upd G d (.frz od (.dK kvs))) (upd H d (.frz od (.dK kvs))) L -> WkO K (Iti d od kvs) x.rows (upd G d (.frz od (.dK kvs))) ->
      exists W : Nat -> Nat -> L2.St -> Hp -> Prop, (exists m, W 0 m σ (upd H d (.frz od (.dK kvs)))) ∧ forall i m σ H, W i m σ H ->
        ((Iti d od kvs).stop i H ∧ (lkE X u d (.frz od (.dK kvs)) (.dK kvs)).nx σ H) ∨ ((Iti d od kvs).go i H ∧ exists N : L2.St -> Hp -> Prop, (forall σ' H', N σ' H' -> exists m', m' < m ∧ W (i + 1) m' σ' H') ∧
          forall x H', (Iti d od kvs).yld i H x H' -> g x σ H' fun σ2 H2 => t1 { lkE X u d (.frz od (.dK kvs)) (.dK kvs) with nx := N, ct := N, bk := (lkE X u d (.frz od (.dK kvs)) (.dK kvs)).nx } σ2 H2)) :
    tSeq (tLock (tFor (iItems (tFld K (tVar i) "members")) g t1)) u X σ H := by
  obtain ⟨p, C', dx, w, d, kvs, rfl, i2, h3, h4, h5, h6⟩ := r
  cases isC.uniq i2 iC
  refine ⟨d, .dK kvs, a.ex _ _ h5, trivial, fun od => ?_⟩
  have hpd : p ≠ d := fun z => by rw [z, h5] at h3; cases h3
  have r6 : Da' (rp K (upd G d (.frz od (.dK kvs)))) kvs x.rows := h6.mono fun _ _ => lock_lst h5
  refine ⟨_, hs, p, _, dx, _, .ref d, rfl, (upd_ne hpd).trans (a.ex _ _ h3), cl, na, folkF_mem, d, od, kvs, rfl, upd_same, ?_⟩
  exact k d kvs od h5 (lock_at h5 a) (wo_items upd_same r6)
end
end Pu

set_option Elab.async false
set_option linter.all false
set_option maxRecDepth 100000
namespace Pu
open Pu.Rp (rp)
open PySem PySem.Spec PyProof.Rows L2
/-! a folk that is one's own: its dict and its lists -/
abbrev Rows := List (Str × List Str)
def kvl : List Addr -> Rows -> List (Key × V)
  | p :: ps, r :: rs => (.inr r.1, .ref p) :: kvl ps rs
  | _, _ => []
def ldl : List Addr -> Rows -> Led
  | p :: ps, r :: rs => (p, .lst (r.2.map V.str)) :: ldl ps rs
  | _, _ => []
def rput : Rows -> Str -> Str -> Rows
  | [], g, m => [(g, [m])]
  | r :: rs, g, m => if r.1 = g then (r.1, if m ∈ r.2 then r.2 else r.2 ++ [m]) :: rs else r :: rput rs g m
def rem : List Str -> Str -> List Str
  | [], _ => []
  | y :: ys, m => if y = m then ys else y :: rem ys m
def rdel : Rows -> Str -> Str -> Rows
  | [], _, _ => []
  | r :: rs, g, m => if r.1 = g then (r.1, rem r.2 m) :: rs else r :: rdel rs g m
theorem kvl_app : forall {a : List Addr} {b : Rows} {a' : List Addr} {b' : Rows}, a.length = b.length -> kvl (a ++ a') (b ++ b') = kvl a b ++ kvl a' b'
  | [], [], _, _, _ => rfl
  | p :: ps, r :: rs, a', b', h => by
    show _ :: kvl (ps ++ a') (rs ++ b') = _
    rw [kvl_app (by simpa using h)]; rfl
  | [], r :: rs, _, _, h => by simp at h
  | p :: ps, [], _, _, h => by simp at h
theorem ldl_app : forall {a : List Addr} {b : Rows} {a' : List Addr} {b' : Rows}, a.length = b.length -> ldl (a ++ a') (b ++ b') = ldl a b ++ ldl a' b'
  | [], [], _, _, _ => rfl
  | p :: ps, r :: rs, a', b', h => by
    show _ :: ldl (ps ++ a') (rs ++ b') = _
    rw [ldl_app (by simpa using h)]; rfl
  | [], r :: rs, _, _, h => by simp at h
  | p :: ps, [], _, _, h => by simp at h
theorem kvl_len : forall {a : List Addr} {b : Rows}, a.length = b.length -> (kvl a b).length = b.length
  | [], [], _ => rfl
  | p :: ps, r :: rs, h => by show (kvl ps rs).length + 1 = rs.length + 1; rw [kvl_len (by simpa using h)]
  | [], r :: rs, h => by simp at h
  | p :: ps, [], h => by simp at h
theorem val_cons {k : Key} {v : V} {r : List (Key × V)} {g : Key} : valV ((k, v) :: r) g = if k = g then some v else valV r g := by
  unfold valV
  rw [List.find?_cons]
  by_cases e : k = g <;> simp [e]
theorem find_split (g : Str) : forall {ps : List Addr} {rows : Rows}, ps.length = rows.length ->
    (valV (kvl ps rows) (.inr g) = none ∧ (kvl ps rows).any (fun kv => decide (kv.1 = .inr g)) = false ∧ forall r, r ∈ rows -> r.1 ≠ g) ∨
    exists ps1 p ps2 r1 xs r2, ps = ps1 ++ p :: ps2 ∧ rows = r1 ++ (g, xs) :: r2 ∧ ps1.length = r1.length ∧ ps2.length = r2.length ∧ (forall r, r ∈ r1 -> r.1 ≠ g) ∧ valV (kvl ps rows) (.inr g) = some (.ref p)
  | [], [], _ => .inl ⟨rfl, rfl, fun r h => nomatch h⟩
  | p :: ps, r :: rs, h => by
    have hv : valV (kvl (p :: ps) (r :: rs)) (.inr g) = if (Sum.inr r.1 : Key) = .inr g then some (.ref p) else valV (kvl ps rs) (.inr g) := val_cons
    obtain ⟨k, xs⟩ := r
    by_cases e : k = g
    · subst e
      exact .inr ⟨[], p, ps, [], xs, rs, rfl, rfl, rfl, by simpa using h, fun r h => (nomatch h), by rw [hv]; simp⟩
    · have e' : ¬ (Sum.inr k : Key) = .inr g := fun z => e (Sum.inr.inj z)
      rw [if_neg e'] at hv
      rcases find_split g (ps := ps) (rows := rs) (by simpa using h) with ⟨h1, h2, h3⟩ | ⟨ps1, q, ps2, r1, ys, r2, h1, h2, h3, h4, h5, h6⟩
      · refine .inl ⟨by rw [hv]; exact h1, ?_, fun r hr => ?_⟩
        · show (decide ((Sum.inr k : Key) = .inr g) || (kvl ps rs).any _) = false
          rw [h2]; simp [e]
        · rcases List.mem_cons.mp hr with z | z
          · rw [z]; exact e
          · exact h3 r z
      · refine .inr ⟨p :: ps1, q, ps2, (k, xs) :: r1, ys, r2, by rw [h1]; rfl, by rw [h2]; rfl, by simp [h3], h4, fun r hr => ?_, by rw [hv]; exact h6⟩
        rcases List.mem_cons.mp hr with z | z
        · rw [z]; exact e
        · exact h5 r z
  | [], r :: rs, h => by simp at h
  | p :: ps, [], h => by simp at h
theorem rput_no {g m : Str} : forall {rows : Rows}, (forall r, r ∈ rows -> r.1 ≠ g) -> rput rows g m = rows ++ [(g, [m])]
  | [], _ => rfl
  | r :: rs, h => by
    show (if r.1 = g then _ else _) = _
    rw [if_neg (h r List.mem_cons_self), rput_no fun x hx => h x (List.mem_cons_of_mem _ hx)]; rfl
theorem rput_at {g m : Str} {xs : List Str} {r2 : Rows} : forall {r1 : Rows}, (forall r, r ∈ r1 -> r.1 ≠ g) -> rput (r1 ++ (g, xs) :: r2) g m = r1 ++ (g, if m ∈ xs then xs else xs ++ [m]) :: r2
  | [], _ => by show (if g = g then _ else _) = _; rw [if_pos rfl]; rfl
  | r :: rs, h => by
    show (if r.1 = g then _ else _) = _
    rw [if_neg (h r List.mem_cons_self)]
    exact congrArg (r :: ·) (rput_at fun x hx => h x (List.mem_cons_of_mem _ hx))
theorem rdel_at {g m : Str} {xs : List Str} {r2 : Rows} : forall {r1 : Rows}, (forall r, r ∈ r1 -> r.1 ≠ g) -> rdel (r1 ++ (g, xs) :: r2) g m = r1 ++ (g, rem xs m) :: r2
  | [], _ => by show (if g = g then _ else _) = _; rw [if_pos rfl]; rfl
  | r :: rs, h => by
    show (if r.1 = g then _ else _) = _
    rw [if_neg (h r List.mem_cons_self)]
    exact congrArg (r :: ·) (rdel_at fun x hx => h x (List.mem_cons_of_mem _ hx))
theorem rem_ix {m : Str} : forall {xs : List Str}, m ∈ xs -> exists j : Nat, xs[j]? = some m ∧ (forall i : Nat, i < j -> xs[i]? ≠ some m) ∧ xs.eraseIdx j = rem xs m
  | [], h => nomatch h
  | y :: ys, h => by
    by_cases e : y = m
    · subst e
      exact ⟨0, rfl, fun i hi => absurd hi (Nat.not_lt_zero _), by show ys = if y = y then ys else _; rw [if_pos rfl]⟩
    · have hm : m ∈ ys := by rcases List.mem_cons.mp h with z | z; exact absurd z.symm e; exact z
      obtain ⟨j, h1, h2, h3⟩ := rem_ix hm
      refine ⟨j + 1, by simpa using h1, fun i hi => ?_, by show y :: ys.eraseIdx j = if y = m then _ else _; rw [if_neg e, h3]⟩
      cases i with
      | zero => simp; exact e
      | succ i => simpa using h2 i (by omega)
section
variable {K : Fg} {A B C I : Type} [Rp A] [Rp B] [Rp C] [Rp I]
variable {σ : L2.St} {G G' H H' : Hp} {L L' : Led} {te ta tb tc : TE} {X : Ends} {t1 t2 u : TS} {i j : Nat}
def FoW (K : Fg) (G : Hp) (v : V) (x : FolkS) (es : Led) : Prop :=
  exists a C dx u d ps, v = .ref a ∧ isC K "Folk" C ∧ G a = some (.ins C dx (folkF u (.ref d))) ∧ rp K G u (⟨x.names⟩ : Tl Str) ∧ ps.length = x.rows.length ∧ es = (d, .dK (kvl ps x.rows)) :: ldl ps x.rows
theorem fow_mono {v : V} {x : FolkS} {es : Led} (e : Gx G G') : FoW K G v x es -> FoW K G' v x es := fun ⟨a, C, dx, u, d, ps, h1, h2, h3, h4, h5, h6⟩ => ⟨a, C, dx, u, d, ps, h1, h2, e _ _ h3, Rp.mono e h4, h5, h6⟩
theorem ldl_da : forall {ps : List Addr} {rows : Rows}, ps.length = rows.length -> (forall e, e ∈ ldl ps rows -> H e.1 = some e.2) -> Da' (rp K H) (kvl ps rows) rows
  | [], [], _, _ => trivial
  | p :: ps, r :: rs, h, q => ⟨rfl, ⟨p, _, rfl, q (p, .lst (r.2.map V.str)) List.mem_cons_self, str_al _⟩, ldl_da (by simpa using h) fun e he => q e (List.mem_cons_of_mem _ he)⟩
  | [], r :: rs, h, _ => by simp at h
  | p :: ps, [], h, _ => by simp at h
theorem fow_rp {v : V} {x : FolkS} {es : Led} (a : At G H L) (hm : forall e, e ∈ es -> e ∈ L) : FoW K G v x es -> rp K H v x := fun ⟨p, C, dx, u, d, ps, h1, h2, h3, h4, h5, h6⟩ => by
  subst h6
  exact ⟨p, C, dx, u, d, _, h1, h2, a.ex _ _ h3, Rp.mono a.ex h4, (a.led _ (hm _ List.mem_cons_self)).1, ldl_da h5 fun e he => (a.led e (hm e (List.mem_cons_of_mem _ he))).1⟩
/-- one of the lists ahead of all -/
theorem fow_pick {d : Addr} {o : HO} {ps1 ps2 : List Addr} {p : Addr} {r1 r2 : Rows} {g : Str} {xs : List Str} (h1 : ps1.length = r1.length) :
    ((d, o) :: ldl (ps1 ++ p :: ps2) (r1 ++ (g, xs) :: r2) ++ L).Perm ([(p, HO.lst (xs.map V.str))] ++ ([(d, o)] ++ ((ldl ps1 r1 ++ ldl ps2 r2) ++ L))) := by
  rw [ldl_app h1]
  show ((d, o) :: ((ldl ps1 r1 ++ (p, HO.lst (xs.map V.str)) :: ldl ps2 r2) ++ L)).Perm ((p, HO.lst (xs.map V.str)) :: (d, o) :: ((ldl ps1 r1 ++ ldl ps2 r2) ++ L))
  refine (List.Perm.cons _ ?_).trans (List.Perm.swap _ _ _)
  exact (List.perm_middle (l₁ := ldl ps1 r1) (l₂ := ldl ps2 r2) (a := (p, HO.lst (xs.map V.str)))).append_right L
/-- members = self.members.setdefault(group, []); if member not in members: members.append(member) -/
theorem fo_put {v : V} {x : FolkS} {es : Led} {g m : Str} {Cc : Addr} (w : FoW K G v x es) (a : At G H (es ++ L)) (h0 : σ[0]? = some (some v)) (h1 : σ[1]? = some (some (.str g))) (h2 : σ[2]? = some (some (.str m))) (h3 : 3 < σ.length)
    (iC : isC K "Folk" Cc) (cl : Cls K Cc) (na : NoAttr K Cc "members") (hz : x.rows.length < 10000 ∧ forall r, r ∈ x.rows -> r.2.length < 10000)
    (k : forall σ' G2 H2 es2, Gx G G2 -> At G2 H2 (es2 ++ L) -> FoW K G2 v ⟨x.names, rput x.rows g m⟩ es2 -> X.nx σ' H2) :
    tSeq (tAsg (tDSetd (tFld K (tVar 0) "members") (tVar 1) (tLst tNil)) (gName 3)) (tSeq (tIfS (tTest (tOp (rIn K true) (tVar 2) (tVar 3))) (tSeq (tDrop (tBM K "list" rAppend (tVar 3) (tCons (tVar 2) tNil))) tNext) tNext) tNext) X σ H := by
  obtain ⟨q, C', dx, w0, d, ps, rfl, i2, w3, w4, w5, rfl⟩ := w
  cases isC.uniq i2 iC
  have hd := (a.led (d, .dK (kvl ps x.rows)) (by simp)).1
  -- what follows, with the list at its place
  have fin : forall {G1 H1 : Hp} {ps1 ps2 : List Addr} {p : Addr} {r1 r2 : Rows} {xs : List Str}, Gx G G1 -> ps1.length = r1.length -> ps2.length = r2.length -> (forall r, r ∈ r1 -> r.1 ≠ g) -> xs.length < 10000 ->
      rput x.rows g m = r1 ++ (g, if m ∈ xs then xs else xs ++ [m]) :: r2 -> At G1 H1 ((d, .dK (kvl (ps1 ++ p :: ps2) (r1 ++ (g, xs) :: r2))) :: ldl (ps1 ++ p :: ps2) (r1 ++ (g, xs) :: r2) ++ L) ->
      tSeq (tIfS (tTest (tOp (rIn K true) (tVar 2) (tVar 3))) (tSeq (tDrop (tBM K "list" rAppend (tVar 3) (tCons (tVar 2) tNil))) tNext) tNext) tNext X (σ.set 3 (some (.ref p))) H1 := by
    intro G1 H1 ps1 ps2 p r1 r2 xs g1 e1 e2 hno hx er a1
    have a2 := a1.perm (fow_pick e1)
    have s2 : (σ.set 3 (some (V.ref p)))[2]? = some (some (.str m)) := by rw [List.getElem?_set_ne (by decide)]; exact h2
    have s3 : (σ.set 3 (some (V.ref p)))[3]? = some (some (.ref p)) := by rw [List.getElem?_set_self h3]
    have rx : rp K H1 (.ref p) xs := ⟨p, _, rfl, (a2.led (p, .lst (xs.map V.str)) (by simp)).1, str_al _⟩
    have ek : forall ys : List Str, kvl (ps1 ++ p :: ps2) (r1 ++ (g, xs) :: r2) = kvl (ps1 ++ p :: ps2) (r1 ++ (g, ys) :: r2) := fun ys => by rw [kvl_app e1, kvl_app e1]; rfl
    have done : forall {G2 H2 : Hp} {ys : List Str}, Gx G1 G2 -> rput x.rows g m = r1 ++ (g, ys) :: r2 -> At G2 H2 ([(p, HO.lst (ys.map V.str))] ++ ([(d, .dK (kvl (ps1 ++ p :: ps2) (r1 ++ (g, xs) :: r2)))] ++ ((ldl ps1 r1 ++ ldl ps2 r2) ++ L))) -> forall σ', X.nx σ' H2 := by
      intro G2 H2 ys g2 er2 a3 σ'
      rw [ek ys] at a3
      have a4 := a3.perm (fow_pick (g := g) e1).symm
      refine k σ' G2 H2 _ (g1.trans g2) a4 ⟨q, _, dx, w0, d, ps1 ++ p :: ps2, rfl, iC, (g1.trans g2) _ _ w3, Rp.mono (g1.trans g2) w4, ?_, ?_⟩
      · rw [er2]; simp [e1, e2]
      · rw [er2]
    refine st_if (et_test (x_ninL (eb_v s2 rfl) (eb_v s3 rx))) (b := !decide (m ∈ xs)) rfl (fun eb H2 e => ?_) (fun eb H2 e => ?_)
    · have hm : ¬ m ∈ xs := by simpa using eb
      refine sf_app (A := Str) s3 (eo_v (G := G1) s2 rfl) rfl (a2.grow e) (by rw [List.length_map]; omega) fun v2 G3 H3 g3 a3 r3 => ?_
      cases (show v2 = V.str m from r3)
      rw [if_neg hm] at er
      refine done g3 er ?_ _
      rw [List.map_append]; exact a3
    · have hm : m ∈ xs := by simpa using eb
      rw [if_pos hm] at er
      exact done Gx.rfl er (a2.grow e) _
  refine ⟨_, h0, q, _, dx, _, .ref d, rfl, a.ex _ _ w3, cl, na, folkF_mem, d, rfl, .inl ⟨_, .inl hd⟩, _, h1, ?_⟩
  refine ⟨(by show 0 ≤ sizeLine; decide), fun p hp => ?_⟩
  have a1 : At G (upd H p (.lst [])) ((p, .lst []) :: ((d, .dK (kvl ps x.rows)) :: ldl ps x.rows ++ L)) := a.add hp trivial
  have hd1 := (a1.led (d, .dK (kvl ps x.rows)) (by simp)).1
  refine ⟨_, .inr g, hd1, rfl, by rw [kvl_len w5]; exact Evl.sz_lt (by omega), fun u hu => ?_, fun hu => ?_⟩
  · rcases find_split g w5 with ⟨z1, _, _⟩ | ⟨ps1, p', ps2, r1, xs, r2, z1, z2, z3, z4, z5, z6⟩
    · rw [z1] at hu; cases hu
    · rw [z6] at hu
      cases hu
      refine fin (ps1 := ps1) (ps2 := ps2) (r1 := r1) (r2 := r2) (xs := xs) Gx.rfl z3 z4 z5 (hz.2 (g, xs) (by rw [z2]; simp)) ?_ ?_
      · rw [z2]; exact rput_at z5
      · rw [← z1, ← z2]; exact a.grow (Gx.new hp)
  · rcases find_split g w5 with ⟨z1, z2, z3⟩ | ⟨ps1, p', ps2, r1, xs, r2, z1, z2, z3, z4, z5, z6⟩
    · have ep : putK (kvl ps x.rows) (.inr g) (.ref p) = kvl (ps ++ [p]) (x.rows ++ [(g, [])]) := by
        unfold putK
        rw [if_neg (by rw [z2]; simp), kvl_app w5]; rfl
      rw [ep]
      refine fin (ps1 := ps) (ps2 := []) (r1 := x.rows) (r2 := []) (xs := []) Gx.rfl w5 rfl z3 (by decide) ?_ ?_
      · rw [rput_no z3]; rfl
      · have a2 : At G _ (((p, .lst []) :: []) ++ (d, .dK (kvl ps x.rows)) :: (ldl ps x.rows ++ L)) := a1
        have a3 := At.set (o' := .dK (kvl (ps ++ [p]) (x.rows ++ [(g, [])]))) a2 trivial
        refine a3.perm ?_
        have := (fow_pick (L := L) (d := d) (o := .dK (kvl (ps ++ [p]) (x.rows ++ [(g, [])]))) (ps1 := ps) (ps2 := []) (p := p) (r1 := x.rows) (r2 := []) (g := g) (xs := []) w5).symm
        refine List.Perm.trans ?_ this
        show ((p, HO.lst []) :: (d, _) :: (ldl ps x.rows ++ L)).Perm ((p, HO.lst []) :: (d, _) :: ((ldl ps x.rows ++ []) ++ L))
        rw [List.append_nil]
    · rw [z6] at hu; cases hu
/-- self.members[group].remove(member) -/
theorem fo_take {v : V} {x : FolkS} {es : Led} {g m : Str} {Cc : Addr} (w : FoW K G v x es) (a : At G H (es ++ L)) (h0 : σ[0]? = some (some v)) (h1 : σ[1]? = some (some (.str g))) (h2 : σ[2]? = some (some (.str m)))
    (iC : isC K "Folk" Cc) (cl : Cls K Cc) (na : NoAttr K Cc "members") (hm : exists xs, sget x.rows g = some xs ∧ m ∈ xs)
    (k : forall σ' H2 es2, At G H2 (es2 ++ L) -> FoW K G v ⟨x.names, rdel x.rows g m⟩ es2 -> X.nx σ' H2) :
    tSeq (tDrop (tBM K "list" rRemS (tDGet (tFld K (tVar 0) "members") (tVar 1)) (tCons (tVar 2) tNil))) tNext X σ H := by
  obtain ⟨q, C', dx, w0, d, ps, rfl, i2, w3, w4, w5, rfl⟩ := w
  cases isC.uniq i2 iC
  have hd := (a.led (d, .dK (kvl ps x.rows)) (by simp)).1
  obtain ⟨ys, hy, hmy⟩ := hm
  rcases find_split g w5 with ⟨z1, _, z3⟩ | ⟨ps1, p, ps2, r1, xs, r2, z1, z2, z3, z4, z5, z6⟩
  · obtain ⟨e, he, rfl⟩ := Option.map_eq_some_iff.mp hy
    have := List.find?_some he
    exact absurd (by simpa using this) (z3 e (List.mem_of_find?_eq_some he))
  · have ex : ys = xs := by
      have : sget x.rows g = some xs := by
        rw [z2]; unfold sget
        rw [List.find?_append, List.find?_eq_none.mpr (fun r hr => by simpa using z5 r hr)]
        simp
      rw [this] at hy; cases hy; rfl
    subst ex
    obtain ⟨j, j1, j2, j3⟩ := rem_ix hmy
    have a2 := a.perm (by rw [z1, z2]; exact fow_pick (xs := ys) z3 : (((d, .dK (kvl ps x.rows)) :: ldl ps x.rows) ++ L).Perm ([(p, HO.lst (ys.map V.str))] ++ ([(d, .dK (kvl (ps1 ++ p :: ps2) (r1 ++ (g, ys) :: r2)))] ++ ((ldl ps1 r1 ++ ldl ps2 r2) ++ L))))
    have hp := (a2.led (p, .lst (ys.map V.str)) (by simp)).1
    refine ⟨_, h0, q, _, dx, _, .ref d, rfl, a.ex _ _ w3, cl, na, folkF_mem, _, h1, d, .ref p, rfl, z6 ▸ (show DGet _ _ (V.str g) (valV (kvl ps x.rows) (Sum.inr g)) from .inl ⟨_, Sum.inr g, .inl hd, rfl, rfl⟩), .inl ⟨rfl, _, SqL.of hp⟩, _, h2, p, ys, m, j, rfl, rfl, hp, j1, j2, ?_⟩
    rw [j3]
    have a3 := At.set (L1 := []) (o' := .lst ((rem ys m).map V.str)) a2 trivial
    have ek : kvl (ps1 ++ p :: ps2) (r1 ++ (g, ys) :: r2) = kvl (ps1 ++ p :: ps2) (r1 ++ (g, rem ys m) :: r2) := by rw [kvl_app z3, kvl_app z3]; rfl
    rw [ek] at a3
    have a4 := a3.perm (fow_pick (g := g) (xs := rem ys m) z3).symm
    have er : rdel x.rows g m = r1 ++ (g, rem ys m) :: r2 := by rw [z2]; exact rdel_at z5
    refine k _ _ _ a4 ⟨q, _, dx, w0, d, ps1 ++ p :: ps2, rfl, iC, w3, w4, ?_, ?_⟩
    · rw [er]; simp [z3, z4]
    · rw [er]
end
end Pu

set_option Elab.async false
set_option linter.all false
set_option maxRecDepth 100000
namespace Pu
open Pu.Rp (rp)
open PySem PySem.Spec PyProof.Rows L2
/-- put, take: of a folk that is one's own -/
def PSm (K : Fg) (f : FolkS -> Str -> Str -> Option (FolkS ⊕ String)) : Sp := fun vs H Q E => exists G L v x es g m r, vs = [v, .str g, .str m] ∧ At G H (es ++ L) ∧ FoW K G v x es ∧ f x g m = some r ∧
  (forall x', r = .inl x' -> forall G2 H2 es2, Gx G G2 -> At G2 H2 (es2 ++ L) -> FoW K G2 v x' es2 -> Q .non H2) ∧ (forall c, r = .inr c -> forall C G2 H2, isC K c C -> Gx G G2 -> At G2 H2 (es ++ L) -> E (.ref C) none H2)
def fPutF (x : FolkS) (g m : Str) : Option (FolkS ⊕ String) := if x.rows.length < 10000 ∧ x.rows.all (fun r => decide (r.2.length < 10000)) = true then some (.inl ⟨x.names, rput x.rows g m⟩) else none
def fTakeF (x : FolkS) (g m : Str) : Option (FolkS ⊕ String) := match sget x.rows g with
  | some xs => if m ∈ xs then some (.inl ⟨x.names, rdel x.rows g m⟩) else none
  | none => none
theorem fPutFs {x : FolkS} {g m : Str} {r : FolkS ⊕ String} (h : fPutF x g m = some r) : r = .inl ⟨x.names, rput x.rows g m⟩ ∧ x.rows.length < 10000 ∧ forall r, r ∈ x.rows -> r.2.length < 10000 := by
  unfold fPutF at h
  split at h
  · rename_i c
    cases h
    exact ⟨rfl, c.1, fun r hr => by simpa using List.all_eq_true.mp c.2 r hr⟩
  · cases h
theorem fTakeFs {x : FolkS} {g m : Str} {r : FolkS ⊕ String} (h : fTakeF x g m = some r) : r = .inl ⟨x.names, rdel x.rows g m⟩ ∧ exists xs, sget x.rows g = some xs ∧ m ∈ xs := by
  unfold fTakeF at h
  split at h
  · rename_i xs e
    split at h
    · cases h; exact ⟨rfl, xs, e, by assumption⟩
    · cases h
  · cases h
section
variable {K : Fg} {A B C I : Type} [Rp A] [Rp B] [Rp C] [Rp I]
variable {σ : L2.St} {G G' H H' : Hp} {L L' : Led} {te ta tb tc : TE} {X : Ends} {t1 t2 u : TS} {i j : Nat} {ms mt : Option Str} {ma : Option A} {mb : Option B}
/-! d[k], d.get(k, x) of a dict that is one's own, whose things are frozen -/
theorem eo_sdget {p : Addr} {kvs : List (Key × V)} {rows : List (Str × A)} (hs : σ[i]? = some (some (.ref p))) (hp : H p = some (.dK kvs)) (al : Da' (rp K G) kvs rows) (hb : EvB K tb σ H ms) : EvO K (tDGet (tVar i) tb) σ G H (o2 fGetD (some ⟨rows⟩) ms) := fun x hx G1 H1 L g e a Q q => by
  obtain ⟨d, k, e1, e2, e3⟩ := o2s hx
  cases e1
  refine ⟨_, hs, hb k e2 H1 e _ fun w H3 g3 r3 => ?_⟩
  cases (show w = V.str k from r3)
  rcases al.get k with ⟨z1, z2⟩ | ⟨v, y, z1, z2, z3⟩
  · rw [show fGetD ⟨rows⟩ k = sget rows k from rfl, z2] at e3; cases e3
  · rw [show fGetD ⟨rows⟩ k = sget rows k from rfl, z2] at e3; cases e3
    exact ⟨p, v, rfl, z1 ▸ (show DGet _ _ (V.str k) (valV kvs (.inr k)) from .inl ⟨kvs, Sum.inr k, .inl (g3 _ _ (e _ _ hp)), rfl, rfl⟩), q v G1 H3 Gx.rfl g3 (a.grow g3) (Rp.mono g z3)⟩
theorem eo_sdget2 {p : Addr} {kvs : List (Key × V)} {rows : List (Str × A)} {mc : Option A} (hs : σ[i]? = some (some (.ref p))) (hp : H p = some (.dK kvs)) (al : Da' (rp K G) kvs rows) (hb : EvB K tb σ H ms) (hc : EvO K tc σ G H mc) : EvO K (tDGet2 (tVar i) tb tc) σ G H (o3 fGet2 (some ⟨rows⟩) ms mc) := fun x hx G1 H1 L g e a Q q => by
  obtain ⟨d, k, y, e1, e2, e2', e3⟩ := o3s hx
  cases e1
  cases e3
  refine ⟨_, hs, p, rfl, .inl ⟨kvs, .inl (e _ _ hp)⟩, hb k e2 H1 e _ fun w H3 g3 r3 => hc y e2' G1 H3 L g (e.trans g3) (a.grow g3) _ fun z G4 H4 g4 h4 a4 r4 => ?_⟩
  cases (show w = V.str k from r3)
  refine ⟨_, .inl ⟨kvs, Sum.inr k, .inl (h4 _ _ (g3 _ _ (e _ _ hp))), rfl, rfl⟩, ?_⟩
  have q' : forall v y', sget rows k = some y' -> rp K G v y' -> Q v H4 := fun v y' z2 z3 => by
    have : (Option.getD (sget rows k) y) = y' := by rw [z2]; rfl
    refine q v G4 H4 g4 (g3.trans h4) a4 ?_
    show rp K G4 v (Option.getD (sget rows k) y)
    rw [this]; exact Rp.mono (g.trans g4) z3
  rcases al.get k with ⟨z1, z2⟩ | ⟨v, y', z1, z2, z3⟩
  · rw [z1]
    refine q z G4 H4 g4 (g3.trans h4) a4 ?_
    show rp K G4 z (Option.getD (sget rows k) y)
    rw [z2]; exact r4
  · rw [z1]; exact q' v y' z2 z3
/-- o.put(e, f) handed back, or by itself -/
theorem m_put {f : FolkS -> Str -> Str -> Option (FolkS ⊕ String)} {m : Str} {Cc : Addr} {E : XK} {es : Led} {x : FolkS} {v : V} {Q : VK} {g n : Str} {r : FolkS ⊕ String} (hn : NoM FolkS "Folk" m) (iC : isC K "Folk" Cc) (w : FoW K G v x es) (a : At G H (es ++ L)) (hs : σ[i]? = some (some v))
    (hb : EvB K tb σ H ms) (h1 : ms = some g) (hc : EvB K tc σ H mt) (h2 : mt = some n) (hf : f x g n = some r) {x' : FolkS} (hr : r = .inl x')
    (k : forall G2 H2 es2, Gx G G2 -> At G2 H2 (es2 ++ L) -> FoW K G2 v x' es2 -> Q .non H2) : tMeth Cc m (PSm K f) [] E (tVar i) (tCons tb (tCons tc tNil)) σ H Q := by
  obtain ⟨p, C', dx, fs, rfl, i2, h3, h4⟩ := hn (fow_rp a (fun e h => by simp [h]) w)
  cases isC.uniq i2 iC
  refine ⟨_, hs, p, dx, fs, rfl, h3, h4, hb g h1 H Gx.rfl _ fun v1 H1 g1 r1 => hc n h2 H1 g1 _ fun v2 H2 g2 r2 => ?_⟩
  cases (show v1 = V.str g from r1)
  cases (show v2 = V.str n from r2)
  exact ⟨G, L, _, x, es, g, n, r, rfl, a.grow (g1.trans g2), w, hf, fun y hy => by rw [hr] at hy; cases hy; exact k, fun c hc => by rw [hr] at hc; cases hc⟩
end
theorem getLs {A : Type} {r : A ⊕ String} {x : A} (h : getL r = some x) : r = .inl x := by
  cases r with
  | inl y => cases h; rfl
  | inr c => cases h
/-- of a folk and of rows that are one's own; None is handed back -/
def PSd2 (K : Fg) (f : FolkS -> Rows -> List Str -> List Str -> Int -> Option (FolkS × Rows)) : Sp := fun vs H Q E => exists G L vf x es pr kvs rows vp people vg groups n r, vs = [vf, .ref pr, vp, vg, .int n] ∧ At G H (es ++ ([(pr, HO.dK kvs)] ++ L)) ∧ FoW K G vf x es ∧ Da' (rp K G) kvs rows ∧ rp K G vp people ∧ rp K G vg groups ∧ f x rows people groups n = some r ∧
  (forall G2 H2 es2 kvs2, Gx G G2 -> At G2 H2 (es2 ++ ([(pr, HO.dK kvs2)] ++ L)) -> FoW K G2 vf r.1 es2 -> Da' (rp K G2) kvs2 r.2 -> Q .non H2)
end Pu

set_option Elab.async false
set_option linter.all false
set_option maxRecDepth 100000
namespace Pu
open Pu.Rp (rp)
open PySem PySem.Spec PyProof.Rows L2
/-! pairs whose first list is one's own -/
abbrev Pr := List Str × List Str
def TD (K : Fg) (G : Hp) : List V -> List Pr -> Led -> Prop
  | [], [], [] => True
  | v :: vs, x :: xs, e :: es => (exists T a w, v = .ref T ∧ G T = some (.tup [.ref a, w]) ∧ e = (a, .lst (x.1.map V.str)) ∧ rp K G w x.2) ∧ TD K G vs xs es
  | _, _, _ => False
section
variable {K : Fg} {A B C I : Type} [Rp A] [Rp B] [Rp C] [Rp I]
variable {σ : L2.St} {G G' H H' : Hp} {L L' : Led} {te ta tb tc : TE} {X : Ends} {t1 t2 u : TS} {tr : TA} {i j : Nat} {ms mt : Option Str} {ma : Option A} {mb : Option B}
theorem TD.mono (g : Gx G G') : forall {vs : List V} {xs : List Pr} {es : Led}, TD K G vs xs es -> TD K G' vs xs es
  | [], [], [], _ => trivial
  | v :: vs, x :: xs, e :: es, ⟨⟨T, a, w, h1, h2, h3, h4⟩, h⟩ => ⟨⟨T, a, w, h1, g _ _ h2, h3, Rp.mono g h4⟩, TD.mono g h⟩
  | [], [], e :: es, h => False.elim h
  | [], x :: xs, _, h => False.elim h
  | v :: vs, [], _, h => False.elim h
  | v :: vs, x :: xs, [], h => False.elim h
theorem TD.app : forall {vs ws : List V} {xs ys : List Pr} {es fs : Led}, TD K G vs xs es -> TD K G ws ys fs -> TD K G (vs ++ ws) (xs ++ ys) (es ++ fs)
  | [], ws, [], ys, [], fs, _, h => h
  | v :: vs, ws, x :: xs, ys, e :: es, fs, ⟨h1, h2⟩, h => ⟨h1, TD.app h2 h⟩
  | [], _, [], _, e :: es, _, h, _ => False.elim h
  | [], _, x :: xs, _, _, _, h, _ => False.elim h
  | v :: vs, _, [], _, _, _, h, _ => False.elim h
  | v :: vs, _, x :: xs, _, [], _, h, _ => False.elim h
theorem TD.len : forall {vs : List V} {xs : List Pr} {es : Led}, TD K G vs xs es -> vs.length = xs.length ∧ es.length = xs.length
  | [], [], [], _ => ⟨rfl, rfl⟩
  | v :: vs, x :: xs, e :: es, ⟨_, h⟩ => by have := TD.len h; simp [this.1, this.2]
  | [], [], e :: es, h => False.elim h
  | [], x :: xs, _, h => False.elim h
  | v :: vs, [], _, h => False.elim h
  | v :: vs, x :: xs, [], h => False.elim h
theorem TD.at_ : forall {vs : List V} {xs : List Pr} {es : Led} {i : Nat} {x : Pr}, TD K G vs xs es -> xs[i]? = some x -> exists T a w, vs[i]? = some (.ref T) ∧ G T = some (.tup [.ref a, w]) ∧ es.drop i = (a, .lst (x.1.map V.str)) :: es.drop (i + 1) ∧ rp K G w x.2
  | [], [], [], i, x, _, h => by simp at h
  | v :: vs, y :: xs, e :: es, 0, x, ⟨⟨T, a, w, h1, h2, h3, h4⟩, _⟩, h => by
    simp at h; subst h
    exact ⟨T, a, w, by rw [h1]; rfl, h2, by rw [h3]; rfl, h4⟩
  | v :: vs, y :: xs, e :: es, i + 1, x, ⟨_, hh⟩, h => by
    obtain ⟨T, a, w, h1, h2, h3, h4⟩ := TD.at_ (i := i) hh (by simpa using h)
    exact ⟨T, a, w, by simpa using h1, h2, by simpa using h3, h4⟩
  | [], [], e :: es, _, _, h, _ => False.elim h
  | [], x :: xs, _, _, _, h, _ => False.elim h
  | v :: vs, [], _, _, _, h, _ => False.elim h
  | v :: vs, x :: xs, [], _, _, h, _ => False.elim h
def EvW (K : Fg) (te : TE) (σ : L2.St) (G H : Hp) (m : Option Pr) : Prop :=
  forall x, m = some x -> forall G1 H1 L, Gx G G1 -> Gx H H1 -> At G1 H1 L -> forall Q : VK, (forall v e G2 H2, Gx G1 G2 -> Gx H1 H2 -> At G2 H2 ([e] ++ L) -> TD K G2 [v] [x] [e] -> Q v H2) -> te σ H1 Q
theorem ew_pair {ma : Option (List Str)} {mb : Option (List Str)} (ha : EvN K ta σ H ma) (hb : EvO K tb σ G H mb) : EvW K (tTup (tCons ta (tCons tb tNil))) σ G H (o2 fPair ma mb) := fun x hx G1 H1 L g e a Q q => by
  obtain ⟨y, z, e1, e2, e3⟩ := o2s hx
  cases e3
  refine ha y e1 H1 e _ fun p vs H2 hp g2 h2 r2 => ?_
  have ev := al_str r2
  subst ev
  have a2 : At G1 H2 ((p, HO.lst (y.map V.str)) :: L) := by
    have b := a.grow g2
    refine ⟨b.ex, List.nodup_cons.mpr ⟨a.fresh hp, b.nd⟩, fun q hq => ?_⟩
    rcases List.mem_cons.mp hq with rfl | hq
    · exact ⟨h2, a.gn hp, trivial⟩
    · exact b.led q hq
  refine hb z e2 G1 H2 _ g (e.trans g2) a2 _ fun w G3 H3 g3 h3 a3 r3 => ⟨(by show 2 ≤ sizeLine; decide), fun T hT => ?_⟩
  have gp := Gx.new (o := HO.tup [.ref p, w]) (a3.gn hT)
  exact q _ (p, .lst (y.map V.str)) _ _ (g3.trans gp) ((g2.trans h3).trans (Gx.new hT)) (a3.both hT) ⟨⟨T, p, w, rfl, upd_same, rfl, Rp.mono gp r3⟩, trivial⟩
def EvWL (K : Fg) (t : TA) (σ : L2.St) (G H : Hp) (m : Option (List Pr)) : Prop :=
  forall xs, m = some xs -> forall G1 H1 L, Gx G G1 -> Gx H H1 -> At G1 H1 L -> forall Q : List V -> Hp -> Prop, (forall vs tl G2 H2, Gx G1 G2 -> Gx H1 H2 -> At G2 H2 (tl ++ L) -> TD K G2 vs xs tl -> Q vs H2) -> t σ H1 Q
theorem wl_nil : EvWL K tNil σ G H (some []) := fun xs hx G1 H1 L g e a Q q => by
  cases hx
  exact q [] [] G1 H1 Gx.rfl Gx.rfl a trivial
theorem wl_cons {m : Option Pr} {mr : Option (List Pr)} (ha : EvW K ta σ G H m) (hr : EvWL K tr σ G H mr) : EvWL K (tCons ta tr) σ G H (o2 fCons m mr) := fun xs hx G1 H1 L g e a Q q => by
  obtain ⟨y, z, e1, e2, e3⟩ := o2s hx
  cases e3
  refine ha y e1 G1 H1 L g e a _ fun v ee G2 H2 g2 h2 a2 r2 => hr z e2 G2 H2 _ (g.trans g2) (e.trans h2) a2 _ fun vs tl G3 H3 g3 h3 a3 r3 => ?_
  refine q (v :: vs) (ee :: tl) G3 H3 (g2.trans g3) (h2.trans h3) (a3.perm ?_) ⟨(TD.mono g3 r2).1, r3⟩
  show (tl ++ (ee :: L)).Perm (ee :: (tl ++ L))
  exact List.perm_middle
theorem sf_lstW {m : Option (List Pr)} {x : List Pr} (h : EvWL K tr σ G H m) (hm : m = some x) (hz : x.length ≤ 1000) (a : At G H L) (k : forall p vs tl G2 H2, Gx G G2 -> At G2 H2 (([(p, HO.lst vs)] ++ tl) ++ L) -> TD K G2 vs x tl -> u X (σ.set i (some (.ref p))) H2) : tSeq (tAsg (tLst tr) (gName i)) u X σ H :=
  h x hm G H L Gx.rfl Gx.rfl a _ fun vs tl G2 H2 g e a2 r => ⟨Evl.sz_of (by rw [r.len.1]; omega), fun p hp => k p vs tl G2 _ g (a2.add hp (o := HO.lst vs) trivial) r⟩
theorem sf_appW {p : Addr} {vs : List V} {tl : Led} {xs : List Pr} {m : Option Pr} {x : Pr} (hs : σ[i]? = some (some (.ref p))) (h : EvW K te σ G H m) (hm : m = some x) (a : At G H (([(p, HO.lst vs)] ++ tl) ++ L)) (r : TD K G vs xs tl) (hz : xs.length < 100000)
    (k : forall vs2 tl2 G2 H2, Gx G G2 -> At G2 H2 (([(p, HO.lst vs2)] ++ tl2) ++ L) -> TD K G2 vs2 (xs ++ [x]) tl2 -> u X σ H2) : tSeq (tDrop (tBM K "list" rAppend (tVar i) (tCons te tNil))) u X σ H := by
  have hp := (a.led (p, .lst vs) (by simp)).1
  refine ⟨_, hs, .inl ⟨rfl, _, SqL.of hp⟩, h x hm G H _ Gx.rfl Gx.rfl a _ fun v e G2 H2 g h2 a2 r2 => ⟨p, vs, v, rfl, rfl, h2 _ _ hp, Evl.sz_lt (by rw [r.len.1]; omega), ?_⟩⟩
  have a3 : At G2 _ ([e] ++ (p, HO.lst (vs ++ [v])) :: (tl ++ L)) := At.set (L1 := [e]) a2 trivial
  refine k (vs ++ [v]) (tl ++ [e]) G2 _ g (a3.perm ?_) ((TD.mono g r).app r2)
  show (e :: (p, HO.lst (vs ++ [v])) :: (tl ++ L)).Perm ((p, HO.lst (vs ++ [v])) :: ((tl ++ [e]) ++ L))
  refine (List.Perm.swap _ _ _).trans (List.Perm.cons _ ?_)
  rw [List.append_assoc]
  exact List.perm_middle.symm
/-- return found + [..] -/
theorem sr_catW {p : Addr} {vs : List V} {tl : Led} {xs : List Pr} {m : Option (List Pr)} {x : List Pr} (hs : σ[i]? = some (some (.ref p))) (h : EvWL K tr σ G H m) (hm : m = some x) (a : At G H (([(p, HO.lst vs)] ++ tl) ++ L)) (r : TD K G vs xs tl) (hz : xs.length + x.length ≤ 1000)
    (k : forall q ws tl2 G2 H2, Gx G G2 -> At G2 H2 (tl2 ++ L) -> G2 q = some (.lst ws) -> TD K G2 ws (xs ++ x) tl2 -> X.rt (.ref q) H2) : tSeq (tRet (tOp rCat (tVar i) (tLst tr))) u X σ H := by
  have hp := (a.led (p, .lst vs) (by simp)).1
  refine ⟨_, hs, h x hm G H _ Gx.rfl Gx.rfl a _ fun vs2 tl2 G2 H2 g h2 a2 r2 => ⟨Evl.sz_of (by rw [r2.len.1]; omega), fun b hb => ?_⟩⟩
  have gb := Gx.new (o := HO.lst vs2) hb
  refine ⟨p, b, vs, vs2, rfl, rfl, gb _ _ (h2 _ _ hp), upd_same, Evl.sz_of (by rw [r.len.1, r2.len.1]; omega), fun q hq => ?_⟩
  have a3 := (a2.grow gb).both (o := HO.lst (vs ++ vs2)) hq
  have gq := Gx.new (o := HO.lst (vs ++ vs2)) ((a2.grow gb).gn hq)
  refine k q (vs ++ vs2) (tl ++ tl2) _ _ (g.trans gq) ?_ upd_same (TD.mono gq ((TD.mono g r).app r2))
  have a4 : At _ _ ([(p, HO.lst vs)] ++ ((tl ++ tl2) ++ L)) := a3.perm (by
    show (tl2 ++ ((p, HO.lst vs) :: (tl ++ L))).Perm ((p, HO.lst vs) :: ((tl ++ tl2) ++ L))
    refine List.perm_middle.trans (List.Perm.cons _ ?_)
    rw [List.append_assoc]
    exact p1)
  exact a4.drop1
theorem eo_pair (ha : EvO K ta σ G H ma) (hb : EvO K tb σ G H mb) : EvO K (tTup (tCons ta (tCons tb tNil))) σ G H (o2 fPair ma mb) := fun x hx G1 H1 L g e a Q q => by
  obtain ⟨y, z, e1, e2, e3⟩ := o2s hx
  cases e3
  refine ha y e1 G1 H1 L g e a _ fun v G2 H2 g2 h2 a2 r2 => hb z e2 G2 H2 L (g.trans g2) (e.trans h2) a2 _ fun w G3 H3 g3 h3 a3 r3 => ⟨(by show 2 ≤ sizeLine; decide), fun T hT => ?_⟩
  have gp := Gx.new (o := HO.tup [v, w]) (a3.gn hT)
  exact q _ _ _ ((g2.trans g3).trans gp) ((h2.trans h3).trans (Gx.new hT)) (a3.both hT) ⟨T, v, w, rfl, upd_same, Rp.mono (g3.trans gp) r2, Rp.mono gp r3⟩
/-- of a folk and of rows that are one's own and are read; a new list of pairs whose first list is the asker's own -/
def PSt (K : Fg) (f : FolkS -> Rows -> List Str -> Int -> Option (List Pr)) : Sp := fun vs H Q E => exists G L vf x es pr kvs rows vp people n r, vs = [vf, .ref pr, vp, .int n] ∧ At G H (es ++ ([(pr, HO.dK kvs)] ++ L)) ∧ FoW K G vf x es ∧ Da' (rp K G) kvs rows ∧ rp K G vp people ∧ f x rows people n = some r ∧
  (forall q ws tl G2 H2, Gx G G2 -> At G2 H2 (tl ++ (es ++ ([(pr, HO.dK kvs)] ++ L))) -> G2 q = some (.lst ws) -> TD K G2 ws r tl -> Q (.ref q) H2)
/-- a walk over such a list -/
theorem td_run {S R : Type} {q : Addr} {ws : List V} {tl : Led} {xs : List Pr} {f : S -> Pr -> Option (S ⊕ R)} {s0 : S} {res : S ⊕ R} {E0 : Ends} {G2 H2 : Hp} {L2' : Led} {E1 : L2.St -> Hp -> Prop} (hq : G2 q = some (.lst ws)) (hT : TD K G2 ws xs tl) (a : At G2 H2 (tl ++ L2')) (hl : loopM f s0 xs = some res)
    (In : S -> L2.St -> Hp -> Led -> Prop) (h0 : In s0 σ G2 L2')
    (hs : forall s x o σ' G' H' L' v w tl', f s x = some o -> (forall r, o = .inr r -> res = .inr r) -> In s σ' G' L' -> Gx G2 G' -> At G' H' ([(v, HO.lst (x.1.map V.str))] ++ (tl' ++ L')) -> rp K G' w x.2 ->
      t1 { E0 with nx := fun σ H => exists s' G L, o = .inl s' ∧ In s' σ G L ∧ Gx G2 G ∧ At G H (tl' ++ L), ct := fun σ H => exists s' G L, o = .inl s' ∧ In s' σ G L ∧ Gx G2 G ∧ At G H (tl' ++ L), bk := E1 } ((σ'.set i (some (.ref v))).set j (some w)) H')
    (hd : forall s1 σ' G' H' L', res = .inl s1 -> In s1 σ' G' L' -> Gx G2 G' -> At G' H' L' -> E1 σ' H') :
    exists W : Nat -> Nat -> L2.St -> Hp -> Prop, (exists m, W 0 m σ H2) ∧ forall k m σ H, W k m σ H ->
      ((Itl K q).stop k H ∧ E1 σ H) ∨ ((Itl K q).go k H ∧ exists N : L2.St -> Hp -> Prop, (forall σ' H', N σ' H' -> exists m', m' < m ∧ W (k + 1) m' σ' H') ∧ forall x H', (Itl K q).yld k H x H' -> (gTup K 2 (gCons (gName i) (gCons (gName j) gNil))) x σ H' fun σ2 H2 => t1 { E0 with nx := N, ct := N, bk := E1 } σ2 H2) := by
  refine ⟨fun k m σ H => m = xs.length - k ∧ k ≤ xs.length ∧ exists s G' L', In s σ G' L' ∧ Gx G2 G' ∧ At G' H (tl.drop k ++ L') ∧ loopM f s (xs.drop k) = some res, ⟨xs.length, by simp, Nat.zero_le _, s0, G2, L2', h0, Gx.rfl, a, hl⟩, ?_⟩
  rintro k m σ' Hc ⟨rfl, hle, s, Gc, Lc, hin, gc, ac, hm⟩
  have hqH : Hc q = some (.lst ws) := ac.ex _ _ (gc _ _ hq)
  by_cases hlt : k < xs.length
  · rw [List.drop_eq_getElem_cons hlt] at hm
    cases hf : f s xs[k] with
    | none => unfold loopM at hm; rw [hf] at hm; cases hm
    | some o =>
      have hm' : bra (fun s' => loopM f s' (xs.drop (k + 1))) o = some res := by
        unfold loopM at hm; rw [hf] at hm; exact hm
      obtain ⟨T, v, w, h1, h2, h3, h4⟩ := hT.at_ (List.getElem?_eq_getElem hlt)
      refine .inr ⟨⟨ws, _, SqL.of hqH, h1⟩, fun σ H => exists s' G L, o = .inl s' ∧ In s' σ G L ∧ Gx G2 G ∧ At G H (tl.drop (k + 1) ++ L), fun σ3 H3 hN => ?_, fun y Hy hy => ?_⟩
      · obtain ⟨s', G3, L3, rfl, h5, h6, h7⟩ := hN
        exact ⟨xs.length - (k + 1), by omega, rfl, hlt, s', G3, L3, h5, h6, h7, hm'⟩
      · obtain ⟨rfl, hy⟩ := hy
        have e := hy ws (SqL.of hqH)
        rw [h1] at e
        cases e
        refine ⟨T, [.ref v, w], rfl, SqT.of (ac.ex _ _ (gc _ _ h2)), rfl, .ref v, [w], rfl, w, [], rfl, rfl, ?_⟩
        rw [h3] at ac
        exact hs s xs[k] o σ' Gc _ Lc v w (tl.drop (k + 1)) hf (fun r er => by subst er; exact (Option.some.inj hm').symm) hin gc ac (Rp.mono gc h4)
  · have hi : k = xs.length := by omega
    subst hi
    rw [List.drop_length] at hm
    refine .inl ⟨⟨ws, SqL.of hqH, by rw [hT.len.1]; exact Nat.le_refl _⟩, hd s σ' Gc Hc Lc (Option.some.inj hm).symm hin gc ?_⟩
    rw [← hT.len.2, List.drop_length] at ac
    exact ac
end
end Pu

set_option Elab.async false
set_option linter.all false
set_option maxRecDepth 100000
namespace Pu
open Pu.Rp (rp)
open PySem PySem.Spec PyProof.Rows L2
def fLim (x : List Pr) : Option (List Pr) := if x.length ≤ 1000 then some x else none
theorem fLims {m : Option (List Pr)} {x : List Pr} (h : o1 fLim m = some x) : m = some x ∧ x.length ≤ 1000 := by
  obtain ⟨a, e1, e3⟩ := o1s h
  unfold fLim at e3
  split at e3
  · cases e3; exact ⟨e1, by assumption⟩
  · cases e3
def fCatW (x y : List Pr) : Option (List Pr) := if x.length + y.length ≤ 1000 then some (x ++ y) else none
theorem fCatWs {x y z : List Pr} (h : fCatW x y = some z) : z = x ++ y ∧ x.length + y.length ≤ 1000 := by
  unfold fCatW at h
  split at h
  · cases h; exact ⟨rfl, by assumption⟩
  · cases h
section
variable {K : Fg} {A B C I : Type} [Rp A] [Rp B] [Rp C] [Rp I]
variable {σ : L2.St} {G G' H H' : Hp} {L L' : Led} {te ta tb tc : TE} {X : Ends} {t1 t2 u : TS} {tr : TA} {i j i0 i1 i2 i3 i4 : Nat} {ms mt : Option Str} {ma : Option A} {mb : Option B}
/-- a folk that is made -/
def PSi (K : Fg) : Sp := fun vs H Q E => exists x p ws C dx, vs = [.ref x, .ref p] ∧ isC K "Folk" C ∧ H x = some (.ins C dx []) ∧ H p = some (.lst ws) ∧
  (forall t d, H t = none -> H d = none -> t ≠ d -> Q .non (upd (upd (upd (upd H t (.tup ws)) x (.ins C dx [(("names" : Str), .ref t)])) d (.dK [])) x (.ins C dx (folkF (.ref t) (.ref d)))))
theorem st_init {Cc : Addr} {x p dx : Addr} {ws : List V} {Q : VK} (hx : H x = some (.ins Cc dx [])) (hp : H p = some (.lst ws)) (cl : Cls K Cc) (n1 : NoAttr K Cc "names") (n2 : NoAttr K Cc "members") (h0 : σ[0]? = some (some (.ref x))) (h1 : σ[1]? = some (some (.ref p)))
    (q : forall t d, H t = none -> H d = none -> t ≠ d -> Q .non (upd (upd (upd (upd H t (.tup ws)) x (.ins Cc dx [(("names" : Str), .ref t)])) d (.dK [])) x (.ins Cc dx (folkF (.ref t) (.ref d))))) (e : X.nx = fun _ H' => Q .non H') :
    tSeq (sFld K (tVar 0) (tCB (fun xs H Q => ∃ p ys, xs = [V.ref p] ∧ ((SqL K H p ys ∧ ∀ l, H l = none → Q (V.ref l) (upd H l (.tup ys))) ∨ (SqT K H p ys ∧ Q (V.ref p) H))) (tCons (tVar 1) tNil)) "names") (tSeq (sFld K (tVar 0) tDNewK "members") tNext) X σ H := by
  refine ⟨_, h1, p, ws, rfl, .inl ⟨SqL.of hp, fun t ht => ?_⟩⟩
  have htx : x ≠ t := fun z => by rw [z, ht] at hx; cases hx
  refine ⟨_, h0, x, Cc, dx, [], rfl, (upd_ne htx).trans hx, cl, n1, by decide, ?_⟩
  intro d hd
  have hdx : d ≠ x := fun z => by rw [z, upd_same] at hd; cases hd
  rw [upd_ne hdx] at hd
  have hdt : d ≠ t := fun z => by rw [z, upd_same] at hd; cases hd
  rw [upd_ne hdt] at hd
  refine ⟨_, h0, x, Cc, dx, _, rfl, (upd_ne (Ne.symm hdx)).trans upd_same, cl, n2, (by show 1 < 1000; decide), ?_⟩
  show X.nx _ _
  rw [e]
  have e2 : putF "members" (.ref d) (putF "names" (.ref t) []) = folkF (.ref t) (.ref d) := by
    show (if (("names" : Str) = "members") then [(("names" : Str), V.ref d)] else (("names" : Str), V.ref t) :: putF "members" (.ref d) []) = _
    rw [if_neg fk1]; rfl
  rw [e2]
  exact q t d ht hd (Ne.symm hdt)
theorem st_folk {E : XK} {p : Addr} {names : List Str} {Cc : Addr} (iC : isC K "Folk" Cc) (a : At G H L) (hs : σ[j]? = some (some (.ref p))) (r : rp K H (.ref p) names)
    (k : forall v es G2 H2, Gx G G2 -> At G2 H2 (es ++ L) -> FoW K G2 v ⟨names, []⟩ es -> u X (σ.set i (some v)) H2) : tSeq (tAsg (tMake Cc (PSi K) [] E (tCons (tVar j) tNil)) (gName i)) u X σ H := by
  obtain ⟨p', ws, e0, hp, hw⟩ := r
  cases e0
  have ew := al_str hw
  subst ew
  refine ⟨_, hs, fun x dx hx hdx hne => ?_⟩
  have hpx : p ≠ x := fun z => by rw [z, hx] at hp; cases hp
  have hpd : p ≠ dx := fun z => by rw [z, hdx] at hp; cases hp
  refine ⟨x, p, names.map V.str, Cc, dx, rfl, iC, upd_same, by rw [upd_ne hpx, upd_ne hpd]; exact hp, fun t d ht hd htd => ⟨rfl, ?_⟩⟩
  have htx : t ≠ x := fun z => by rw [z, upd_same] at ht; cases ht
  have htdx : t ≠ dx := fun z => by rw [upd_ne htx, z, upd_same] at ht; cases ht
  rw [upd_ne htx, upd_ne htdx] at ht
  have hdx' : d ≠ x := fun z => by rw [z, upd_same] at hd; cases hd
  have hddx : d ≠ dx := fun z => by rw [upd_ne hdx', z, upd_same] at hd; cases hd
  rw [upd_ne hdx', upd_ne hddx] at hd
  have gG : forall {b : Addr}, H b = none -> G b = none := fun h => a.ex.back h
  refine k (.ref x) [(d, .dK [])] (upd (upd (upd G dx (.own x)) t (.tup (names.map V.str))) x (.ins Cc dx (folkF (.ref t) (.ref d)))) _ (fun b o h => ?_) ⟨fun b o h => ?_, ?_, fun q hq => ?_⟩ ⟨x, Cc, dx, .ref t, d, [], rfl, iC, upd_same, ⟨t, _, rfl, by rw [upd_ne htx, upd_same], str_al _⟩, rfl, rfl⟩
  · have b1 : b ≠ x := fun z => by rw [z, gG hx] at h; cases h
    have b2 : b ≠ t := fun z => by rw [z, gG ht] at h; cases h
    have b3 : b ≠ dx := fun z => by rw [z, gG hdx] at h; cases h
    rw [upd_ne b1, upd_ne b2, upd_ne b3]; exact h
  · by_cases b1 : b = x
    · subst b1; rw [upd_same] at h ⊢; exact h
    · rw [upd_ne b1] at h
      have b4 : b ≠ d := fun z => by
        rw [z, upd_ne (Ne.symm htd), upd_ne hddx, gG hd] at h; cases h
      rw [upd_ne b1, upd_ne b4, upd_ne b1]
      by_cases b2 : b = t
      · subst b2; rw [upd_same] at h ⊢; exact h
      · rw [upd_ne b2] at h ⊢
        rw [upd_ne b1]
        by_cases b3 : b = dx
        · subst b3; rw [upd_same] at h ⊢; exact h
        · rw [upd_ne b3] at h ⊢; exact a.ex _ _ h
  · show (List.map (·.1) ((d, HO.dK []) :: L)).Nodup
    exact List.nodup_cons.mpr ⟨a.fresh hd, a.nd⟩
  · rcases List.mem_cons.mp (show q ∈ (d, HO.dK []) :: L from hq) with rfl | hq
    · refine ⟨by rw [upd_ne hdx', upd_same], ?_, trivial⟩
      show upd _ x _ d = none
      rw [upd_ne hdx', upd_ne (Ne.symm htd), upd_ne hddx]; exact gG hd
    · obtain ⟨h1, h2, h3⟩ := a.led q hq
      have b1 : q.1 ≠ x := fun z => by rw [z, hx] at h1; cases h1
      have b2 : q.1 ≠ t := fun z => by rw [z, ht] at h1; cases h1
      have b3 : q.1 ≠ dx := fun z => by rw [z, hdx] at h1; cases h1
      have b4 : q.1 ≠ d := fun z => by rw [z, hd] at h1; cases h1
      refine ⟨by rw [upd_ne b1, upd_ne b4, upd_ne b1, upd_ne b2, upd_ne b1, upd_ne b3]; exact h1, by rw [upd_ne b1, upd_ne b2, upd_ne b3]; exact h2, h3⟩
/-- if b and deed(..) is not None: .. -/
theorem st_deedif {f : FolkS -> Rows -> List Str -> List Str -> Int -> Option (FolkS × Rows)} {E : XK} {tt : TT} {mk : Option Bool} {b : Bool} {es : Led} {pr : Addr} {kvs : List (Key × V)} {rows : Rows} {x : FolkS} {vf vp vg : V} {people groups : List Str} {n : Int} {r : FolkS × Rows}
    (ht : EvT tt σ H mk) (hb : mk = some b) (a : At G H (es ++ ([(pr, HO.dK kvs)] ++ L))) (w : FoW K G vf x es) (al : Da' (rp K G) kvs rows) (h0 : σ[i0]? = some (some vf)) (h1 : σ[i1]? = some (some (.ref pr))) (h2 : σ[i2]? = some (some vp)) (h3 : σ[i3]? = some (some vg)) (h4 : σ[i4]? = some (some (.int n)))
    (rp_ : rp K G vp people) (rg : rp K G vg groups) (hf : (if b = true then f x rows people groups n else some (x, rows)) = some r)
    (k : forall G2 H2 es2 kvs2, Gx G G2 -> At G2 H2 (es2 ++ ([(pr, HO.dK kvs2)] ++ L)) -> FoW K G2 vf r.1 es2 -> Da' (rp K G2) kvs2 r.2 -> u X σ H2) :
    tSeq (tIfS (tAnd tt (tTest (tOp (fun x y H Q => y = .non ∧ Q (.bl (!decide (x = .non))) H) (tCall (PSd2 K f) [] E (tCons (tVar i0) (tCons (tVar i1) (tCons (tVar i2) (tCons (tVar i3) (tCons (tVar i4) tNil)))))) (tC .non)))) t1 tNext) u X σ H := by
  refine ht b hb H Gx.rfl _ fun H1 e => ?_
  have a1 := a.grow e
  cases b with
  | false =>
    rw [if_neg (by decide)] at hf
    cases hf
    exact ite_ff (ite_ff (k G H1 es kvs Gx.rfl a1 w al))
  | true =>
    rw [if_pos rfl] at hf
    refine ite_tt ⟨_, h0, _, h1, _, h2, _, h3, _, h4, ?_⟩
    exact ⟨G, L, vf, x, es, pr, kvs, rows, vp, people, vg, groups, n, r, rfl, a1, w, al, rp_, rg, hf, fun G2 H2 es2 kvs2 g a2 w2 al2 => ⟨rfl, false, by rfl, ite_ff (k G2 H2 es2 kvs2 g a2 w2 al2)⟩⟩
/-- for .. in told(..) -/
theorem st_told {f : FolkS -> Rows -> List Str -> Int -> Option (List Pr)} {E : XK} {g : TG} {es : Led} {pr : Addr} {kvs : List (Key × V)} {rows : Rows} {x : FolkS} {vf vp : V} {people : List Str} {mn : Option Int} {n : Int} {xs : List Pr}
    (a : At G H (es ++ ([(pr, HO.dK kvs)] ++ L))) (w : FoW K G vf x es) (al : Da' (rp K G) kvs rows) (h0 : σ[i0]? = some (some vf)) (h1 : σ[i1]? = some (some (.ref pr))) (h2 : σ[i2]? = some (some vp)) (rp_ : rp K G vp people) (h4 : EvB K te σ H mn) (hn : mn = some n) (hf : f x rows people n = some xs)
    (k : forall q ws tl G2 H2, Gx G G2 -> At G2 H2 (tl ++ (es ++ ([(pr, HO.dK kvs)] ++ L))) -> G2 q = some (.lst ws) -> TD K G2 ws xs tl -> exists W : Nat -> Nat -> L2.St -> Hp -> Prop, (exists m, W 0 m σ H2) ∧ forall k m σ H, W k m σ H ->
      ((Itl K q).stop k H ∧ u X σ H) ∨ ((Itl K q).go k H ∧ exists N : L2.St -> Hp -> Prop, (forall σ' H', N σ' H' -> exists m', m' < m ∧ W (k + 1) m' σ' H') ∧ forall x H', (Itl K q).yld k H x H' -> g x σ H' fun σ2 H2 => t1 { X with nx := N, ct := N, bk := u X } σ2 H2)) :
    tSeq (tFor (iList K (tCall (PSt K f) [] E (tCons (tVar i0) (tCons (tVar i1) (tCons (tVar i2) (tCons te tNil)))))) g t1) u X σ H := by
  refine ⟨_, h0, _, h1, _, h2, h4 n hn H Gx.rfl _ fun v H1 e r4 => ?_⟩
  cases (show v = V.int n from r4)
  exact ⟨G, L, vf, x, es, pr, kvs, rows, vp, people, n, xs, rfl, a.grow e, w, al, rp_, hf, fun q ws tl G2 H2 g a2 hq td => ⟨q, rfl, ⟨ws, SqL.of (a2.ex _ _ hq)⟩, k q ws tl G2 H2 g a2 hq td⟩⟩
end
end Pu

set_option Elab.async false
set_option linter.all false
set_option maxRecDepth 100000
namespace Pu
open Pu.Rp (rp)
open PySem PySem.Spec PyProof.Rows L2
/-! xs[lo:hi:st], st any expression that comes to a number other than 0 -/
def pickV (l u : Option Int) (n : Int) (len : Nat) : List Nat := sliceRange (sliceBounds l u (some n) len).1 (sliceBounds l u (some n) len).2.1 (sliceBounds l u (some n) len).2.2
def tSlV (te : TE) (tl th ts : TO) : TE := fun σ H Q => te σ H fun x H1 => tl σ H1 fun l H2 => th σ H2 fun u H3 => ts σ H3 fun o H4 => exists n a xs, o = some n ∧ n ≠ 0 ∧ x = .ref a ∧ H4 a = some (.lst xs) ∧
  forall p, H4 p = none -> Q (.ref p) (upd H4 p (.lst ((pickV l u n xs.length).filterMap (xs[·]?))))
theorem pe_sliceV {X : Cx} {e : Expr} {lo hi : Option Expr} {st : Expr} {te : TE} {tl th ts : TO} {p2 pos : Pos} (he : PE X e te) (hl : PO X lo tl) (hh : PO X hi th) (hs : PO X (some st) ts) : PE X (.Subscript e (.Slice lo hi (some st) p2) pos) (tSlV te tl th ts) := by
  refine ⟨fun pins s σ H Q I h => ?_⟩
  refine Subscript_ (thn (he.run pins s σ H _ I h) fun v s1 ⟨x, H1, I1, r1, q1⟩ => ?_)
  refine wpAny_Slice (thn (hl.run pins s1 σ H1 _ I1 q1) fun vl s2 ⟨l, H2, I2, pl, q2⟩ => thn (hh.run pins s2 σ H2 _ I2 q2) fun vu s3 ⟨u, H3, I3, pu, q3⟩ => ?_)
  refine thn (hs.run pins s3 σ H3 _ I3 q3) fun vs s4 ⟨o, H4, I4, ps, n, a, xs, eo, hn, ex, hx, q⟩ => ?_
  subst eo
  subst ex
  cases r1
  have I5 : Inv X pins σ H4 { s4 with heap := s4.heap.push { cls := .type "slice", data := .fields #[vl, vu, vs] } } := I4.kept (t' := s4.toks) fun b ob q => Heap.get?_push_of_some _ q
  obtain ⟨its, r, ht, hz⟩ := I5.list (SqL.of hx)
  have hsl : (s4.heap.push { cls := .type "slice", data := .fields #[vl, vu, vs] }).IsSliceOf s4.heap.objs.size vl vu vs := Heap.IsSliceOf.new ..
  refine tail_any (ops := [.ref a, .ref s4.heap.objs.size]) ht.isList.typeIs (PySem.slot_list_getitem.lookup) ?_ (by with_unfolding_all rfl)
  have hz2 : its.toArray.size ≤ sizeLine := by rw [List.size_toArray, ← r.length]; exact hz
  refine wpAny_getItem_list_slice ht.isList hsl pl pu ps (fun z => hn (Option.some.inj z)) ?_ hz2
  have hl2 : its.length = xs.length := r.length.symm
  have epk : slicePick its.toArray l u (some n) = ((pickV l u n xs.length).filterMap (its[·]?)).toArray := by
    unfold slicePick pickV
    rw [List.size_toArray, hl2]
    congr 2
    funext i
    simp
  have hsz := slicePick_size_le its.toArray l u (some n)
  rw [epk] at hsz ⊢
  have rv := vals_pick r (pickV l u n xs.length)
  refine ⟨.ref _, _, I5.laid (t' := s4.toks) (fun b ob q => Heap.get?_push_of_some _ q) (Nat.le_refl _) ?_, rfl, q _ (I5.hok.fresh (Nat.le_refl _))⟩
  exact ⟨by rw [rv.length]; rw [List.size_toArray] at hsz; exact Nat.le_trans hsz hz2, _, 0, rv, Heap.get?_push_size _ rfl⟩
def fStepV {A : Type} (x : List A) (l h : Option Int) (n : Option Int) : Option (List A) := match n with
  | some n => if n = 0 then none else some ((pickV l h n x.length).filterMap (x[·]?))
  | none => none
section
variable {K : Fg} {A B C D : Type} [Rp A] [Rp B] [Rp C] [Rp D]
variable {σ : L2.St} {G G' H H' : Hp} {L : Led} {M : List Addr} {te ta tb tc : TE} {tt tu : TT}
theorem x_stepV {tl th ts : TO} {ma : Option (List A)} {ml mh mn : Option (Option Int)} (ha : EvB K te σ H ma) (hl : EvP tl σ H ml) (hh : EvP th σ H mh) (hs : EvP ts σ H mn) : EvN K (tSlV te tl th ts) σ H (o4 fStepV ma ml mh mn) := fun x hx H1 e Q q => by
  obtain ⟨a, e1, hx⟩ := bnd hx
  obtain ⟨l, e2, hx⟩ := bnd hx
  obtain ⟨h, e3, hx⟩ := bnd hx
  obtain ⟨n, e4, hx⟩ := bnd hx
  cases n with
  | none => cases hx
  | some n =>
    have hx' : (if n = 0 then none else some ((pickV l h n a.length).filterMap (a[·]?))) = some x := hx
    by_cases hn : n = 0
    · rw [if_pos hn] at hx'; cases hx'
    · rw [if_neg hn] at hx'
      cases hx'
      refine ha a e1 H1 e _ fun v H2 g2 r2 => hl l e2 H2 (e.trans g2) _ fun H3 g3 => hh h e3 H3 ((e.trans g2).trans g3) _ fun H4 g4 => hs _ e4 H4 (((e.trans g2).trans g3).trans g4) _ fun H5 g5 => ?_
      have g6 := ((g2.trans g3).trans g4).trans g5
      obtain ⟨p, vs, rfl, h2, h3⟩ := Rp.mono ((g3.trans g4).trans g5) r2
      have r4 : Al (rp K H5) ((pickV l h n vs.length).filterMap (vs[·]?)) ((pickV l h n a.length).filterMap (a[·]?)) := by
        rw [h3.len]
        exact al_pick h3 _
      exact ⟨n, p, vs, rfl, hn, rfl, h2, fun p' hp => q p' _ _ (g6.back hp) (g6.trans (Gx.new hp)) upd_same (r4.mono fun _ _ => Rp.mono (Gx.new hp))⟩
end
end Pu

set_option Elab.async false
set_option linter.all false
set_option maxRecDepth 100000
namespace Pu
open Pu.Rp (rp)
open PySem PySem.Spec PyProof.Rows L2
/-! dict([(k, x), ..]) -/
def dOf {A : Type} : List (Str × A) -> List (Str × A) -> List (Str × A)
  | acc, [] => acc
  | acc, p :: r => dOf (sput acc p.1 p.2) r
def fDictP {A : Type} (xs : List (Str × A)) : Option (Ds A) := some ⟨dOf [] xs⟩
section
variable {K : Fg} {A B C D : Type} [Rp A] [Rp B] [Rp C] [Rp D]
variable {σ : L2.St} {G G' H H' : Hp} {L : Led} {M : List Addr} {te ta tb tc : TE} {tt tu : TT} {X : Cx}
theorem dOf_da {F : V -> A -> Prop} : forall {kvs acc : List (Key × V)} {xs d : List (Str × A)}, Da' F acc d -> Da' F kvs xs -> Da' F (mergeK acc kvs) (dOf d xs)
  | [], acc, [], d, h, _ => h
  | p :: r, acc, x :: xs, d, h, ⟨h1, h2, h3⟩ => by
    obtain ⟨k, v⟩ := p
    cases h1
    show Da' F (mergeK (putK acc (.inr x.1) v) r) (dOf (sput d x.1 x.2) xs)
    exact dOf_da (kvs := r) (acc := putK acc (.inr x.1) v) (h.put h2) h3
  | [], _, x :: xs, _, _, h => False.elim h
  | p :: r, _, [], _, _, h => False.elim h
theorem al_pairs : forall {vs : List V} {xs : List (Str × A)}, Al (rp K H) vs xs -> exists (ps : List Addr) (kvs : List (Key × V)), vs = ps.map V.ref ∧ Paired (fun p (kv : Key × V) => SqT K H p [kV kv.1, kv.2]) ps kvs ∧ Da' (rp K H) kvs xs
  | [], [], _ => ⟨[], [], rfl, .nil, trivial⟩
  | v :: vs, x :: xs, ⟨h, t⟩ => by
    obtain ⟨ps, kvs, e, h1, h2⟩ := al_pairs t
    obtain ⟨a, u, w, rfl, ha, ru, rw'⟩ := h
    cases (show u = V.str x.1 from ru)
    exact ⟨a :: ps, (.inr x.1, w) :: kvs, by rw [e]; rfl, .cons (SqT.of ha) h1, rfl, rw', h2⟩
  | [], x :: xs, h => False.elim h
  | v :: vs, [], h => False.elim h
theorem x_dictP {ma : Option (List (Str × A))} (ha : EvB K ta σ H ma) : EvB K (tCB (fun xs H Q => ∃ (a : Addr) (ps : List Addr) (kvs : List (Key × V)), xs = [.ref a] ∧ SqL K H a (ps.map V.ref) ∧ Paired (fun p kv => SqT K H p [kV kv.1, kv.2]) ps kvs ∧
    ∀ p, H p = none → Q (.ref p) (upd H p (.dK (mergeK [] kvs)))) (tCons ta tNil)) σ H (o1 fDictP ma) :=
  call1 (fun H v x c r hc Q q => by
    cases hc
    obtain ⟨p, vs, rfl, h2, h3⟩ := r
    obtain ⟨ps, kvs, rfl, h4, h5⟩ := al_pairs h3
    refine ⟨p, ps, kvs, rfl, SqL.of h2, h4, fun l hl => ?_⟩
    have g := Gx.new (o := HO.dK (mergeK [] kvs)) hl
    exact q _ _ g ⟨l, _, rfl, .inl upd_same, dOf_da (d := []) trivial (h5.mono fun _ _ => Rp.mono g)⟩) ha
theorem dictP_K (h : X.K = K) (hc : X.calm = true) : CallR X (.type "dict") (fun xs H Q => ∃ (a : Addr) (ps : List Addr) (kvs : List (Key × V)), xs = [.ref a] ∧ SqL K H a (ps.map V.ref) ∧ Paired (fun p kv => SqT K H p [kV kv.1, kv.2]) ps kvs ∧
    ∀ p, H p = none → Q (.ref p) (upd H p (.dK (mergeK [] kvs)))) := h ▸ call_dictP hc
end
end Pu

set_option Elab.async false
set_option linter.all false
set_option maxRecDepth 100000
namespace Pu
open Pu.Rp (rp)
open PySem PySem.Spec PyProof.Rows L2
/-! what stands while a dict is locked -/
def Lq (H H' : Hp) : Prop := exists d kvs, Rd H d (.dK kvs) ∧ Rd H' d (.dK kvs) ∧ forall b, b ≠ d -> H' b = H b
theorem Lq.lst {H H' : Hp} {b : Addr} {vs : List V} (q : Lq H H') (h : H b = some (.lst vs)) : H' b = some (.lst vs) := by
  obtain ⟨d, kvs, h1, _, h3⟩ := q
  rw [h3 b fun e => ?_]; exact h
  subst e
  rcases h1 with h1 | ⟨o, h1⟩ <;> (rw [h] at h1; cases h1)
theorem Lq.tup {H H' : Hp} {b : Addr} {vs : List V} (q : Lq H H') (h : H b = some (.tup vs)) : H' b = some (.tup vs) := by
  obtain ⟨d, kvs, h1, _, h3⟩ := q
  rw [h3 b fun e => ?_]; exact h
  subst e
  rcases h1 with h1 | ⟨o, h1⟩ <;> (rw [h] at h1; cases h1)
theorem Lq.rd {H H' : Hp} {b : Addr} {kv : List (Key × V)} (q : Lq H H') (h : Rd H b (.dK kv)) : Rd H' b (.dK kv) := by
  obtain ⟨d, kvs, h1, h2, h3⟩ := q
  by_cases e : b = d
  · subst e
    have : kv = kvs := by
      rcases h with h | ⟨o, h⟩ <;> rcases h1 with h1 | ⟨o', h1⟩ <;> (rw [h] at h1; cases h1) <;> rfl
    subst this
    exact h2
  · rcases h with h | ⟨o, h⟩
    · exact .inl (by rw [h3 b e]; exact h)
    · exact .inr ⟨o, by rw [h3 b e]; exact h⟩
theorem Lq.symm {H H' : Hp} (q : Lq H H') : Lq H' H := let ⟨d, kvs, h1, h2, h3⟩ := q; ⟨d, kvs, h2, h1, fun b e => (h3 b e).symm⟩
class Lk (A : Type) [Rp A] : Prop where
  lk : forall {K : Fg} {H H' : Hp} {v : V} {x : A}, Lq H H' -> rp K H v x -> rp K H' v x
instance {A : Type} [Rp A] [Im A] : Lk A := ⟨fun q r => Im.im (fun _ _ h => q.tup h) r⟩
instance {A : Type} [Rp A] [Lk A] : Lk (List A) := ⟨fun q ⟨p, vs, h1, h2, h3⟩ => ⟨p, vs, h1, q.lst h2, h3.mono fun _ _ => Lk.lk q⟩⟩
instance {A B : Type} [Rp A] [Rp B] [Lk A] [Lk B] : Lk (A × B) := ⟨fun q ⟨p, u, w, h1, h2, h3, h4⟩ => ⟨p, u, w, h1, q.tup h2, Lk.lk q h3, Lk.lk q h4⟩⟩
instance {A : Type} [Rp A] [Lk A] : Lk (Ds A) := ⟨fun q ⟨p, kvs, h1, h2, h3⟩ => ⟨p, kvs, h1, q.rd h2, h3.mono fun _ _ => Lk.lk q⟩⟩
/-- a dict that is no one's to walk just now -/
structure Dm (A : Type) where
  l : List (Str × A)
instance {A : Type} [Rp A] : Rp (Dm A) where
  rp K H v x := exists p kvs, v = .ref p ∧ H p = some (.dK kvs) ∧ Da' (rp K H) kvs x.l
  mono e := fun ⟨p, kvs, h1, h2, h3⟩ => ⟨p, kvs, h1, e _ _ h2, h3.mono fun _ _ => Rp.mono e⟩
section
variable {K : Fg} {A B C I : Type} [Rp A] [Rp B] [Rp C] [Rp I]
variable {σ : L2.St} {G G' H H' : Hp} {L L' : Led} {te ta tb tc : TE} {tt tu : TT} {X : Ends} {t1 t2 u : TS} {i j : Nat} {d : Addr} {od : Obj} {kvs : List (Key × V)}
theorem dm_ds {v : V} {x : Dm A} (r : rp K H v x) : rp K H v (⟨x.l⟩ : Ds A) := let ⟨p, kvs, h1, h2, h3⟩ := r; ⟨p, kvs, h1, .inl h2, h3⟩
theorem lq_lock (hd : G d = some (.dK kvs)) : Lq G (upd G d (.frz od (.dK kvs))) := ⟨d, kvs, .inl hd, .inr ⟨od, upd_same⟩, fun b e => upd_ne e⟩
theorem lq_unlk (hd : G d = some (.frz od (.dK kvs))) : Lq G (upd G d (.dK kvs)) := ⟨d, kvs, .inr ⟨od, hd⟩, .inl upd_same, fun b e => upd_ne e⟩
theorem wo_dkeys {rows : List (Str × A)} {S : Hp} (h : S d = some (.frz od (.dK kvs))) (r : Da' (rp K S) kvs rows) : WkO (I := Str) K (Itk d od kvs) (rows.map (·.1)) S := by
  have hl : (rows.map (·.1)).length = kvs.length := by rw [List.length_map, r.len]
  refine ⟨fun i H hi e => ⟨e _ _ h, by omega⟩, fun H e => ⟨e _ _ h, by omega⟩, fun i G H L v H' x e ah hx y => ?_⟩
  obtain ⟨rfl, k, v', hk, rfl⟩ := y
  rw [List.getElem?_map] at hx
  obtain ⟨p, hp, rfl⟩ := Option.map_eq_some_iff.mp hx
  obtain ⟨w, hw, _⟩ := da_get r hp
  rw [hw] at hk
  cases hk
  exact ⟨G, Gx.rfl, ah, rfl⟩
/-- for k in d -/
theorem sf_dkeys [Lk A] {g : TG} {v : V} {x : Dm A} (a : At G H L) (r : rp K G v x) (hs : σ[i]? = some (some v))
    (k : forall d kvs od, G d = some (.dK kvs) -> At (upd G d (.frz od (.dK kvs))) (upd H d (.frz od (.dK kvs))) L -> WkO (I := Str) K (Itk d od kvs) (x.l.map (·.1)) (upd G d (.frz od (.dK kvs))) ->
      exists W : Nat -> Nat -> L2.St -> Hp -> Prop, (exists m, W 0 m σ (upd H d (.frz od (.dK kvs)))) ∧ forall i m σ H, W i m σ H ->
        ((Itk d od kvs).stop i H ∧ (lkE X u d (.frz od (.dK kvs)) (.dK kvs)).nx σ H) ∨ ((Itk d od kvs).go i H ∧ exists N : L2.St -> Hp -> Prop, (forall σ' H', N σ' H' -> exists m', m' < m ∧ W (i + 1) m' σ' H') ∧
          forall x H', (Itk d od kvs).yld i H x H' -> g x σ H' fun σ2 H2 => t1 { lkE X u d (.frz od (.dK kvs)) (.dK kvs) with nx := N, ct := N, bk := (lkE X u d (.frz od (.dK kvs)) (.dK kvs)).nx } σ2 H2)) :
    tSeq (tLock (tFor (iKeys (tVar i)) g t1)) u X σ H := by
  obtain ⟨d, kvs, rfl, h5, h6⟩ := r
  refine ⟨d, .dK kvs, a.ex _ _ h5, trivial, fun od => ?_⟩
  have r6 : Da' (rp K (upd G d (.frz od (.dK kvs)))) kvs x.l := h6.mono fun _ _ => Lk.lk (lq_lock h5)
  exact ⟨_, hs, d, od, rfl, .inl ⟨kvs, upd_same, k d kvs od h5 (lock_at h5 a) (wo_dkeys upd_same r6)⟩⟩
end
end Pu

set_option Elab.async false
set_option linter.all false
set_option maxRecDepth 100000
namespace Pu
open Pu.Rp (rp)
open PySem PySem.Spec PyProof.Rows L2
section
variable {K : Fg} {A B C I : Type} [Rp A] [Rp B] [Rp C] [Rp I]
variable {σ : L2.St} {G G' H H' : Hp} {L L' : Led} {te ta tb tc : TE} {tt tu : TT} {X : Ends} {i j : Nat} {d : Addr} {od : Obj} {kvs : List (Key × V)}
/-- a new list, made while a dict is locked -/
theorem n_lock [Im A] {m : Option (List A)} (hd : H d = some (.dK kvs)) (h : forall od, EvN K te σ (upd H d (.frz od (.dK kvs))) m) : EvN K (tLockE te) σ H m := fun xs hx H1 e Q q => by
  refine ⟨d, .dK kvs, e _ _ hd, trivial, fun od => ?_⟩
  have g1 : Gx (upd H d (.frz od (.dK kvs))) (upd H1 d (.frz od (.dK kvs))) := fun b o hb => by
    by_cases eb : b = d
    · subst eb; rw [upd_same] at hb ⊢; exact hb
    · rw [upd_ne eb] at hb ⊢; exact e _ _ hb
  refine h od xs hx _ g1 _ fun a vs H2 ha g h2 al => ?_
  have had : a ≠ d := fun z => by rw [z, upd_same] at ha; cases ha
  rw [upd_ne had] at ha
  have hfz : H2 d = some (.frz od (.dK kvs)) := g _ _ upd_same
  refine ⟨hfz, q a vs _ ha (fun b o hb => ?_) (by rw [upd_ne had]; exact h2) (al.mono fun _ _ r => Im.im (fun b xs hb => ?_) r)⟩
  · by_cases eb : b = d
    · subst eb
      rw [e _ _ hd] at hb
      cases hb
      exact upd_same
    · rw [upd_ne eb]; exact g _ _ (by rw [upd_ne eb]; exact hb)
  · rw [upd_ne (fun z => by rw [z, hfz] at hb; cases hb)]; exact hb
theorem i_dkeys {rows : List (Str × A)} {F : V -> A -> Prop} (hs : σ[i]? = some (some (.ref d))) (hd : H d = some (.frz od (.dK kvs))) (hr : Da' F kvs rows) : EvI (I := Str) K (iKeys (tVar i)) σ [] H (some (rows.map (·.1))) := fun xs hx H1 e R q => by
  cases hx
  have hl : (rows.map (·.1)).length = kvs.length := by rw [List.length_map, hr.len]
  refine ⟨_, hs, d, od, rfl, .inl ⟨kvs, e _ _ hd, q _ H1 Gx.rfl ?_⟩⟩
  rw [mns_nil]
  refine ⟨fun k Hc hk ec => ⟨ec _ _ (e _ _ hd), by omega⟩, fun Hc ec => ⟨ec _ _ (e _ _ hd), by omega⟩, fun k Hc v H' x ec hx y => ?_⟩
  obtain ⟨rfl, ky, v', hk, rfl⟩ := y
  rw [List.getElem?_map] at hx
  obtain ⟨p, hp, rfl⟩ := Option.map_eq_some_iff.mp hx
  obtain ⟨w, hw, _⟩ := da_get hr hp
  rw [hw] at hk
  cases hk
  exact ⟨Gx.rfl, rfl⟩
end
end Pu

set_option Elab.async false
set_option linter.all false
set_option maxRecDepth 100000
namespace Pu
open Pu.Rp (rp)
open PySem PySem.Spec PyProof.Rows L2
/-- an expression that comes to the value v, and leaves all as it is -/
def Vl (te : TE) (σ : L2.St) (H : Hp) (v : V) : Prop := forall H1, Gx H H1 -> forall Q : VK, (forall H2, Gx H1 H2 -> Q v H2) -> te σ H1 Q
section
variable {K : Fg} {A B C I : Type} [Rp A] [Rp B] [Rp C] [Rp I]
variable {σ : L2.St} {G G' H H' : Hp} {L L' : Led} {te ta tb tc td ti : TE} {X : Ends} {t1 t2 u : TS} {i j : Nat}
theorem vl_v {v : V} (h : σ[i]? = some (some v)) : Vl (tVar i) σ H v := fun H1 e Q q => ⟨v, h, q H1 Gx.rfl⟩
theorem vl_int {m : Option Int} {n : Int} (h : EvB K te σ H m) (hm : m = some n) : Vl te σ H (.int n) := fun H1 e Q q => h n hm H1 e Q fun v H2 g r => by
  cases (show v = V.int n from r)
  exact q H2 g
/-- xs[n] of a list of things that are one's own -/
theorem vl_ix {p : Addr} {vs : List V} {v : V} {m : Option Int} {n : Int} (hs : σ[i]? = some (some (.ref p))) (hp : H p = some (.lst vs)) (hi : EvB K ti σ H m) (hn : m = some n) (hv : atI vs n = some v) : Vl (tOp (rIxL K) (tVar i) ti) σ H v := fun H1 e Q q =>
  ⟨_, hs, hi n hn H1 e _ fun w H2 g r => by
    cases (show w = V.int n from r)
    exact ⟨p, vs, n, v, rfl, rfl, SqL.of (g _ _ (e _ _ hp)), hv, q H2 g⟩⟩
/-- if deed(..) is not None: .., the deed's things being any -/
theorem st_deedif2 {f : FolkS -> Rows -> List Str -> List Str -> Int -> Option (FolkS × Rows)} {E : XK} {es : Led} {pr : Addr} {kvs : List (Key × V)} {rows : Rows} {x : FolkS} {vf vp vg : V} {people groups : List Str} {n : Int} {r : FolkS × Rows}
    (a : At G H (es ++ ([(pr, HO.dK kvs)] ++ L))) (w : FoW K G vf x es) (al : Da' (rp K G) kvs rows) (h0 : Vl ta σ H vf) (h1 : Vl tb σ H (.ref pr)) (h2 : Vl tc σ H vp) (h3 : Vl td σ H vg) (h4 : Vl te σ H (.int n))
    (rp_ : rp K G vp people) (rg : rp K G vg groups) (hf : f x rows people groups n = some r)
    (k : forall G2 H2 es2 kvs2, Gx G G2 -> At G2 H2 (es2 ++ ([(pr, HO.dK kvs2)] ++ L)) -> FoW K G2 vf r.1 es2 -> Da' (rp K G2) kvs2 r.2 -> u X σ H2) :
    tSeq (tIfS (tTest (tOp (fun x y H Q => y = .non ∧ Q (.bl (!decide (x = .non))) H) (tCall (PSd2 K f) [] E (tCons ta (tCons tb (tCons tc (tCons td (tCons te tNil)))))) (tC .non))) t1 tNext) u X σ H :=
  h0 H Gx.rfl _ fun H1 g1 => h1 H1 g1 _ fun H2 g2 => h2 H2 (g1.trans g2) _ fun H3 g3 => h3 H3 ((g1.trans g2).trans g3) _ fun H4 g4 => h4 H4 (((g1.trans g2).trans g3).trans g4) _ fun H5 g5 =>
    ⟨G, L, vf, x, es, pr, kvs, rows, vp, people, vg, groups, n, r, rfl, a.grow ((((g1.trans g2).trans g3).trans g4).trans g5), w, al, rp_, rg, hf, fun G2 H2 es2 kvs2 g a2 w2 al2 => ⟨rfl, false, by rfl, ite_ff (k G2 H2 es2 kvs2 g a2 w2 al2)⟩⟩
end
end Pu

set_option Elab.async false
set_option linter.all false
set_option maxRecDepth 100000
namespace Pu
open Pu.Rp (rp)
open PySem PySem.Spec PyProof.Rows L2
section
variable {K : Fg} {A B C I : Type} [Rp A] [Rp B] [Rp C] [Rp I]
variable {σ : L2.St} {G G' H H' : Hp} {L L' : Led} {te ta tb tc : TE} {tt tu : TT} {X : Ends} {i j : Nat} {d : Addr} {od : Obj} {kvs : List (Key × V)}
/-- a new list, made while a dict that nobody walks is locked -/
theorem n_lockD [Im A] {m : Option (List A)} {v : V} {x : Dm B} (r : rp K H v x) [Lk B] (h : forall d kvs od, v = .ref d -> H d = some (.dK kvs) -> Da' (rp K (upd H d (.frz od (.dK kvs)))) kvs x.l -> EvN K te σ (upd H d (.frz od (.dK kvs))) m) : EvN K (tLockE te) σ H m := by
  obtain ⟨d, kvs, rfl, h5, h6⟩ := r
  exact n_lock h5 fun od => h d kvs od rfl h5 (h6.mono fun _ _ => Lk.lk (lq_lock h5))
theorem i_dkeysV {rows : List (Str × A)} {F : V -> A -> Prop} {v : V} (hs : σ[i]? = some (some v)) (hv : v = .ref d) (hr : Da' F kvs rows) : EvI (I := Str) K (iKeys (tVar i)) σ [] (upd H d (.frz od (.dK kvs))) (some (rows.map (·.1))) := by
  subst hv
  exact i_dkeys hs upd_same hr
end
section
variable {X : Cx} {K : Fg}
theorem any_K (h : X.K = K) (hc : X.calm = true) : CallR X (.builtin "any") (rAny K) := h ▸ cr_any hc
theorem all_K (h : X.K = K) (hc : X.calm = true) : CallR X (.builtin "all") (rAll K) := h ▸ cr_all hc
theorem sum_K (h : X.K = K) (hc : X.calm = true) : CallR X (.builtin "sum") (rSum K) := h ▸ cr_sum hc
end
end Pu

set_option Elab.async false
set_option linter.all false
set_option maxRecDepth 100000
namespace Pu
open Pu.Rp (rp)
open PySem PySem.Spec PyProof.Rows L2
/-! folks and their rows, several, each one's own -/
def FR (K : Fg) (G : Hp) : List V -> List Addr -> List (FolkS × Rows) -> Led -> Prop
  | [], [], [], es => es = []
  | v :: vs, p :: ps, x :: xs, es => exists e1 kvs r, FoW K G v x.1 e1 ∧ Da' (rp K G) kvs x.2 ∧ FR K G vs ps xs r ∧ es = e1 ++ ([(p, HO.dK kvs)] ++ r)
  | _, _, _, _ => False
section
variable {K : Fg} {A B C I : Type} [Rp A] [Rp B] [Rp C] [Rp I]
variable {σ : L2.St} {G G' H H' : Hp} {L L' : Led} {te ta tb tc td ti : TE} {tt tu : TT} {X : Ends} {t1 t2 u : TS} {i j : Nat}
theorem FR.mono (g : Gx G G') : forall {vs : List V} {ps : List Addr} {xs : List (FolkS × Rows)} {es : Led}, FR K G vs ps xs es -> FR K G' vs ps xs es
  | [], [], [], es, h => h
  | v :: vs, p :: ps, x :: xs, es, ⟨e1, kvs, r, h1, h2, h3, h4⟩ => ⟨e1, kvs, r, fow_mono g h1, Da'.mono (fun _ _ => Rp.mono g) h2, FR.mono g h3, h4⟩
  | [], [], _ :: _, _, h => False.elim h
  | [], _ :: _, _, _, h => False.elim h
  | _ :: _, [], _, _, h => False.elim h
  | _ :: _, _ :: _, [], _, h => False.elim h
theorem FR.pick : forall {i : Nat} {vs : List V} {ps : List Addr} {xs : List (FolkS × Rows)} {es : Led} {x : FolkS × Rows}, FR K G vs ps xs es -> xs[i]? = some x ->
    exists v p e1 kvs r, vs[i]? = some v ∧ ps[i]? = some p ∧ FoW K G v x.1 e1 ∧ Da' (rp K G) kvs x.2 ∧ es.Perm (e1 ++ ([(p, HO.dK kvs)] ++ r)) ∧
      forall G' x' e1' kvs', Gx G G' -> FoW K G' v x'.1 e1' -> Da' (rp K G') kvs' x'.2 -> exists es', FR K G' vs ps (xs.set i x') es' ∧ es'.Perm (e1' ++ ([(p, HO.dK kvs')] ++ r))
  | 0, v :: vs, p :: ps, x :: xs, es, y, ⟨e1, kvs, r, h1, h2, h3, h4⟩, h => by
    simp at h; subst h
    exact ⟨v, p, e1, kvs, r, rfl, rfl, h1, h2, by rw [h4], fun G' x' e1' kvs' g w1 w2 => ⟨_, ⟨e1', kvs', r, w1, w2, FR.mono g h3, rfl⟩, List.Perm.refl _⟩⟩
  | i + 1, v :: vs, p :: ps, x :: xs, es, y, ⟨e1, kvs, r, h1, h2, h3, h4⟩, h => by
    obtain ⟨v2, p2, e2, kvs2, r2, k1, k2, k3, k4, k5, k6⟩ := FR.pick (i := i) h3 (by simpa using h)
    have pm : forall (a b c d q : Led), c.Perm (a ++ (b ++ q)) -> (e1 ++ (d ++ c)).Perm (a ++ (b ++ ((e1 ++ d) ++ q))) := fun a b c d q z => by
      have z1 : (e1 ++ (d ++ c)).Perm (e1 ++ (d ++ (a ++ (b ++ q)))) := (z.append_left d).append_left e1
      refine z1.trans ?_
      have z2 : (e1 ++ (d ++ (a ++ (b ++ q)))).Perm (a ++ (e1 ++ (d ++ (b ++ q)))) := Pu.p2
      have z3 : (e1 ++ (d ++ (b ++ q))).Perm (b ++ (e1 ++ (d ++ q))) := Pu.p2
      refine z2.trans ?_
      rw [List.append_assoc]
      exact z3.append_left a
    refine ⟨v2, p2, e2, kvs2, (e1 ++ [(p, HO.dK kvs)]) ++ r2, by simpa using k1, by simpa using k2, k3, k4, by rw [h4]; exact pm _ _ _ _ _ k5, fun G' x' e1' kvs' g w1 w2 => ?_⟩
    obtain ⟨es', z1, z2⟩ := k6 G' x' e1' kvs' g w1 w2
    exact ⟨_, ⟨e1, kvs, es', fow_mono g h1, Da'.mono (fun _ _ => Rp.mono g) h2, z1, rfl⟩, pm _ _ _ _ _ z2⟩
  | _, [], [], [], _, _, _, h => by simp at h
  | _, [], [], _ :: _, _, _, h, _ => False.elim h
  | _, [], _ :: _, _, _, _, h, _ => False.elim h
  | _, _ :: _, [], _, _, _, h, _ => False.elim h
  | _, _ :: _, _ :: _, [], _, _, h, _ => False.elim h
/-- one of them, read -/
theorem FR.rd {vs : List V} {ps : List Addr} {xs : List (FolkS × Rows)} {es : Led} {x : FolkS × Rows} {i : Nat} (h : FR K G vs ps xs es) (a : At G H (es ++ L)) (hx : xs[i]? = some x) :
    exists v p, vs[i]? = some v ∧ ps[i]? = some p ∧ rp K H v x.1 ∧ rp K H (.ref p) (⟨x.2⟩ : Dm (List Str)) := by
  obtain ⟨v, p, e1, kvs, r, h1, h2, h3, h4, h5, _⟩ := h.pick hx
  have a2 := a.perm (h5.append_right L)
  refine ⟨v, p, h1, h2, fow_rp a2 (fun e he => by simp [he]) h3, p, kvs, rfl, (a2.led (p, .dK kvs) (by simp)).1, Da'.mono (fun _ _ => Rp.mono a2.ex) h4⟩
theorem eb_vl {v : V} {x : A} (h : Vl te σ H v) (r : rp K H v x) : EvB K te σ H (some x) := fun y hy H1 e Q q => by
  cases hy
  exact h H1 e Q fun H2 g => q v H2 g (Rp.mono (e.trans g) r)
/-- Folk(te), an expression -/
theorem ev_folk {E : XK} {names : List Str} {Cc : Addr} {m : Option (List Str)} (iC : isC K "Folk" Cc) (a : At G H L) (h : EvB K te σ H m) (hm : m = some names) {Q : VK}
    (k : forall v es G2 H2, Gx G G2 -> At G2 H2 (es ++ L) -> FoW K G2 v ⟨names, []⟩ es -> Q v H2) : tMake Cc (PSi K) [] E (tCons te tNil) σ H Q := by
  refine h names hm H Gx.rfl _ fun v H1 e r => ?_
  have st := st_folk (K := K) (E := E) (X := ⟨fun σ H => (match σ[1]? with | some (some v) => Q v H | _ => False), fun _ _ => True, fun _ _ => True, fun _ _ => True⟩) (u := tNext) (i := 1) (σ := [some v, none]) (j := 0) (Cc := Cc) (names := names) iC (a.grow e) (p := (match v with | .ref p => p | _ => 0)) (by obtain ⟨p, ws, rfl, _⟩ := r; rfl) (by obtain ⟨p, ws, rfl, h2, h3⟩ := r; exact ⟨p, ws, rfl, h2, h3⟩) (fun v es G2 H2 g a2 w => by
    show Q v H2
    exact k v es G2 H2 g a2 w)
  have st2 : tMake Cc (PSi K) [] E (tCons (tVar 0) tNil) [some v, none] H1 fun x H2 => Q x H2 := st
  obtain ⟨v', e1, st3⟩ := st2
  cases e1
  exact st3
end
end Pu

set_option Elab.async false
set_option linter.all false
set_option maxRecDepth 100000
namespace Pu
open Pu.Rp (rp)
open PySem PySem.Spec PyProof.Rows L2
/-! what stands in a def's slots: nothing that is known, a thing that stays as it is, a thing that is one's own -/
structure Ow (A : Type) where
  rd : Rp A
  ow : Fg -> Hp -> V -> A -> Led -> Prop
  mono : forall {K : Fg} {G G' : Hp} {v : V} {x : A} {es : Led}, Gx G G' -> ow K G v x es -> ow K G' v x es
  see : forall {K : Fg} {G H : Hp} {v : V} {x : A} {es : Led}, Gx G H -> (forall e, e ∈ es -> H e.1 = some e.2) -> ow K G v x es -> rd.rp K H v x
inductive Slot : Type 1
  | un : Slot
  | fz {A : Type} (i : Rp A) (x : A) : Slot
  | ow {A : Type} (d : Ow A) (x : A) : Slot
abbrev fz {A : Type} [i : Rp A] (x : A) : Slot := .fz i x
abbrev ow {A : Type} (d : Ow A) (x : A) : Slot := .ow d x
def sg : List Slot -> Nat -> Slot
  | [], _ => .un
  | s :: _, 0 => s
  | _ :: r, n + 1 => sg r n
def ss : List Slot -> Nat -> Slot -> List Slot
  | [], _, _ => []
  | _ :: r, 0, t => t :: r
  | s :: r, n + 1, t => s :: ss r n t
def SlR (K : Fg) (G : Hp) (o : Option V) : Slot -> Led -> Prop
  | .un, es => es = []
  | .fz i x, es => es = [] ∧ exists v, o = some v ∧ i.rp K G v x
  | .ow d x, es => exists v, o = some v ∧ d.ow K G v x es
def SlB (K : Fg) (H : Hp) (o : Option V) : Slot -> Prop
  | .un => True
  | .fz i x => exists v, o = some v ∧ i.rp K H v x
  | .ow d x => exists v, o = some v ∧ d.rd.rp K H v x
def ER (K : Fg) (G : Hp) : L2.St -> List Slot -> Led -> Prop
  | [], [], es => es = []
  | o :: σ, s :: ρ, es => exists e1 e2, SlR K G o s e1 ∧ ER K G σ ρ e2 ∧ es = e1 ++ e2
  | _, _, _ => False
def EB (K : Fg) (H : Hp) : L2.St -> List Slot -> Prop
  | [], [] => True
  | o :: σ, s :: ρ => SlB K H o s ∧ EB K H σ ρ
  | _, _ => False
/-- G0: where the def began; L: what others own -/
structure Env (K : Fg) (G0 G H : Hp) (L : Led) (σ : L2.St) (ρ : List Slot) : Prop where
  g0 : Gx G0 G
  er : exists es, ER K G σ ρ es ∧ At G H (es ++ L)
section
variable {K : Fg} {A B C I : Type} {σ : L2.St} {G0 G G' H H' : Hp} {L L' : Led} {ρ ρ' : List Slot} {s t : Slot} {o o' : Option V} {e1 es r : Led} {te ta tb tc : TE} {tt tu : TT} {X : Ends} {t1 t2 u : TS} {i j : Nat}
theorem SlR.mono (g : Gx G G') : forall {s : Slot} {es : Led}, SlR K G o s es -> SlR K G' o s es
  | .un, _, h => h
  | .fz i x, _, ⟨h1, v, h2, h3⟩ => ⟨h1, v, h2, i.mono g h3⟩
  | .ow d x, _, ⟨v, h2, h3⟩ => ⟨v, h2, d.mono g h3⟩
theorem SlR.b (g : Gx G H) (hl : forall e, e ∈ es -> H e.1 = some e.2) : forall {s : Slot}, SlR K G o s es -> SlB K H o s
  | .un, h => trivial
  | .fz i x, ⟨h1, v, h2, h3⟩ => ⟨v, h2, i.mono g h3⟩
  | .ow d x, ⟨v, h2, h3⟩ => ⟨v, h2, d.see g hl h3⟩
theorem SlB.mono (g : Gx H H') : forall {s : Slot}, SlB K H o s -> SlB K H' o s
  | .un, _ => trivial
  | .fz i x, ⟨v, h2, h3⟩ => ⟨v, h2, i.mono g h3⟩
  | .ow d x, ⟨v, h2, h3⟩ => ⟨v, h2, d.rd.mono g h3⟩
theorem ER.mono (g : Gx G G') : forall {σ : L2.St} {ρ : List Slot} {es : Led}, ER K G σ ρ es -> ER K G' σ ρ es
  | [], [], _, h => h
  | o :: σ, s :: ρ, _, ⟨e1, e2, h1, h2, h3⟩ => ⟨e1, e2, h1.mono g, ER.mono g h2, h3⟩
  | [], _ :: _, _, h => h.elim
  | _ :: _, [], _, h => h.elim
theorem ER.b (g : Gx G H) : forall {σ : L2.St} {ρ : List Slot} {es : Led}, (forall e, e ∈ es -> H e.1 = some e.2) -> ER K G σ ρ es -> EB K H σ ρ
  | [], [], _, _, _ => trivial
  | o :: σ, s :: ρ, _, hl, ⟨e1, e2, h1, h2, h3⟩ => by
    subst h3
    exact ⟨h1.b g fun e he => hl e (List.mem_append_left _ he), ER.b g (fun e he => hl e (List.mem_append_right _ he)) h2⟩
  | [], _ :: _, _, _, h => h.elim
  | _ :: _, [], _, _, h => h.elim
theorem EB.mono (g : Gx H H') : forall {σ : L2.St} {ρ : List Slot}, EB K H σ ρ -> EB K H' σ ρ
  | [], [], _ => trivial
  | o :: σ, s :: ρ, ⟨h1, h2⟩ => ⟨h1.mono g, EB.mono g h2⟩
  | [], _ :: _, h => h.elim
  | _ :: _, [], h => h.elim
theorem EB.at_ : forall {i : Nat} {σ : L2.St} {ρ : List Slot}, EB K H σ ρ -> sg ρ i = .un ∨ exists o, σ[i]? = some o ∧ SlB K H o (sg ρ i)
  | _, [], [], _ => .inl rfl
  | 0, o :: σ, s :: ρ, ⟨h1, h2⟩ => .inr ⟨o, rfl, h1⟩
  | i + 1, o :: σ, s :: ρ, ⟨h1, h2⟩ => EB.at_ (i := i) h2
  | _, [], _ :: _, h => h.elim
  | _, _ :: _, [], h => h.elim
theorem EB.set : forall {i : Nat} {σ : L2.St} {ρ : List Slot}, EB K H σ ρ -> SlB K H o s -> EB K H (σ.set i o) (ss ρ i s)
  | _, [], [], _, _ => trivial
  | 0, _ :: σ, _ :: ρ, ⟨h1, h2⟩, h => ⟨h, h2⟩
  | i + 1, o :: σ, s :: ρ, ⟨h1, h2⟩, h => ⟨h1, EB.set (i := i) h2 h⟩
  | _, [], _ :: _, h, _ => h.elim
  | _, _ :: _, [], h, _ => h.elim
theorem ER.len : forall {σ : L2.St} {ρ : List Slot} {es : Led}, ER K G σ ρ es -> σ.length = ρ.length
  | [], [], _, _ => rfl
  | o :: σ, s :: ρ, _, ⟨e1, e2, h1, h2, h3⟩ => by simp only [List.length_cons, ER.len h2]
  | [], _ :: _, _, h => h.elim
  | _ :: _, [], _, h => h.elim
/-- one slot by itself, and what may be put in its place -/
theorem ER.foc : forall {i : Nat} {σ : L2.St} {ρ : List Slot} {es : Led}, i < ρ.length -> ER K G σ ρ es -> exists o e1 r, σ[i]? = some o ∧ SlR K G o (sg ρ i) e1 ∧ es.Perm (e1 ++ r) ∧
    forall {G' : Hp} {o' : Option V} {s' : Slot} {e' : Led}, Gx G G' -> SlR K G' o' s' e' -> exists es', ER K G' (σ.set i o') (ss ρ i s') es' ∧ es'.Perm (e' ++ r)
  | 0, o :: σ, s :: ρ, _, _, ⟨e1, e2, h1, h2, h3⟩ => ⟨o, e1, e2, rfl, h1, by rw [h3], fun g h => ⟨_, ⟨_, e2, h, h2.mono g, rfl⟩, List.Perm.refl _⟩⟩
  | i + 1, o :: σ, s :: ρ, _, hi, ⟨e1, e2, h1, h2, h3⟩ => by
    obtain ⟨o2, f1, r2, k1, k2, k3, k4⟩ := ER.foc (i := i) (by simpa using hi) h2
    refine ⟨o2, f1, e1 ++ r2, k1, k2, ?_, fun g h => ?_⟩
    · rw [h3]
      exact (k3.append_left e1).trans p1
    · obtain ⟨es', q1, q2⟩ := k4 g h
      exact ⟨_, ⟨e1, es', h1.mono g, q1, rfl⟩, (q2.append_left e1).trans p1⟩
  | _, [], [], _, hi, _ => absurd hi (Nat.not_lt_zero _)
  | _, [], _ :: _, _, _, h => h.elim
  | _, _ :: _, [], _, _, h => h.elim
/-- slots that are forgotten -/
def Wk2 : List Slot -> List Slot -> Prop
  | [], [] => True
  | s :: ρ, s' :: ρ' => (s' = s ∨ s' = .un) ∧ Wk2 ρ ρ'
  | _, _ => False
theorem ER.forget : forall {σ : L2.St} {ρ ρ' : List Slot} {es : Led}, Wk2 ρ ρ' -> ER K G σ ρ es -> exists es' d, ER K G σ ρ' es' ∧ es.Perm (d ++ es')
  | [], [], [], es, _, h => ⟨es, [], h, List.Perm.refl _⟩
  | o :: σ, s :: ρ, s' :: ρ', es, ⟨w1, w2⟩, ⟨e1, e2, h1, h2, h3⟩ => by
    obtain ⟨es', d, k1, k2⟩ := ER.forget w2 h2
    rcases w1 with rfl | rfl
    · exact ⟨_, d, ⟨e1, es', h1, k1, rfl⟩, by rw [h3]; exact (k2.append_left e1).trans p1⟩
    · exact ⟨_, e1 ++ d, ⟨[], es', rfl, k1, rfl⟩, by rw [h3, List.append_assoc]; exact k2.append_left e1⟩
  | [], _ :: _, _, _, _, h => h.elim
  | _ :: _, [], _, _, _, h => h.elim
  | [], [], _ :: _, _, h, _ => h.elim
  | _ :: _, _ :: _, [], _, h, _ => h.elim
theorem Env.gx (E : Env K G0 G H L σ ρ) : Gx G0 H := let ⟨es, _, a⟩ := E.er; E.g0.trans a.ex
theorem Env.gH (E : Env K G0 G H L σ ρ) : Gx G H := let ⟨es, _, a⟩ := E.er; a.ex
theorem Env.grow (E : Env K G0 G H L σ ρ) (e : Gx H H') : Env K G0 G H' L σ ρ := let ⟨es, r, a⟩ := E.er; ⟨E.g0, es, r, a.grow e⟩
theorem Env.eb (E : Env K G0 G H L σ ρ) : EB K H σ ρ := let ⟨es, r, a⟩ := E.er; r.b a.ex fun e he => (a.led e (List.mem_append_left _ he)).1
theorem Env.len (E : Env K G0 G H L σ ρ) : σ.length = ρ.length := let ⟨es, r, a⟩ := E.er; r.len
theorem Env.forget (E : Env K G0 G H L σ ρ) (w : Wk2 ρ ρ') : Env K G0 G H L σ ρ' := by
  obtain ⟨es, r, a⟩ := E.er
  obtain ⟨es', d, k1, k2⟩ := r.forget w
  refine ⟨E.g0, es', k1, ?_⟩
  have a2 := a.perm (k2.append_right L)
  rw [List.append_assoc] at a2
  exact a2.drop1
/-- a thing that stays as it is, put into a slot -/
theorem Env.setF [iA : Rp A] {x : A} {v : V} (E : Env K G0 G H L σ ρ) (h : rp K G v x) : Env K G0 G H L (σ.set i (some v)) (ss ρ i (fz x)) := by
  obtain ⟨es, r, a⟩ := E.er
  by_cases hi : i < ρ.length
  · obtain ⟨o, f1, rr, k1, k2, k3, k4⟩ := r.foc hi
    obtain ⟨es', q1, q2⟩ := k4 (s' := fz x) (o' := some v) (e' := []) Gx.rfl ⟨rfl, v, rfl, h⟩
    refine ⟨E.g0, es', q1, ?_⟩
    have a2 := a.perm (k3.append_right L)
    rw [List.append_assoc] at a2
    exact (a2.drop1).perm (q2.symm.append_right L)
  · have e1 : forall {ρ : List Slot} {i : Nat}, ¬ i < ρ.length -> ss ρ i (fz x) = ρ := by
      intro ρ
      induction ρ with
      | nil => intro i _; cases i <;> rfl
      | cons s ρ ih =>
        intro i hi
        cases i with
        | zero => exact absurd (Nat.zero_lt_succ _) hi
        | succ n => show s :: ss ρ n (fz x) = _; rw [ih (by simpa using hi)]
    rw [e1 hi, List.set_eq_of_length_le (by rw [r.len]; omega)]
    exact E
/-- a thing of one's own, put into a slot -/
theorem Env.setO {d : Ow A} {x : A} {v : V} {e : Led} (E : Env K G0 G H (e ++ L) σ ρ) (hi : i < ρ.length) (h : d.ow K G v x e) : Env K G0 G H L (σ.set i (some v)) (ss ρ i (ow d x)) := by
  obtain ⟨es, r, a⟩ := E.er
  obtain ⟨o, f1, rr, k1, k2, k3, k4⟩ := r.foc hi
  obtain ⟨es', q1, q2⟩ := k4 (s' := ow d x) (o' := some v) (e' := e) Gx.rfl ⟨v, rfl, h⟩
  refine ⟨E.g0, es', q1, ?_⟩
  have a2 := a.perm (k3.append_right (e ++ L))
  rw [List.append_assoc] at a2
  have a3 := a2.drop1
  refine a3.perm ?_
  have : (es' ++ L).Perm ((e ++ rr) ++ L) := q2.append_right L
  refine List.Perm.trans ?_ this.symm
  rw [List.append_assoc]
  exact p1
/-! names -/
theorem EB.get [iA : Rp A] {x : A} {i : Nat} (B : EB K H σ ρ) (h : sg ρ i = fz x) : EvB K (tVar i) σ H (some x) := by
  rcases B.at_ (i := i) with e | ⟨o, h1, h2⟩
  · rw [h] at e; cases e
  · rw [h] at h2
    obtain ⟨v, rfl, h3⟩ := h2
    exact eb_v h1 h3
theorem EB.getO {d : Ow A} {x : A} {i : Nat} (B : EB K H σ ρ) (h : sg ρ i = ow d x) : @EvB A d.rd K (tVar i) σ H (some x) := by
  rcases B.at_ (i := i) with e | ⟨o, h1, h2⟩
  · rw [h] at e; cases e
  · rw [h] at h2
    obtain ⟨v, rfl, h3⟩ := h2
    exact @eb_v K A d.rd σ H i v x h1 h3
theorem Env.lt {i : Nat} (h : sg ρ i ≠ .un) : i < ρ.length := by
  induction ρ generalizing i with
  | nil => exact absurd rfl h
  | cons s ρ ih =>
    cases i with
    | zero => exact Nat.zero_lt_succ _
    | succ n => exact Nat.succ_lt_succ (ih h)
theorem Env.fzat [iA : Rp A] {x : A} {i : Nat} (E : Env K G0 G H L σ ρ) (h : sg ρ i = fz x) : exists v, σ[i]? = some (some v) ∧ rp K G v x := by
  obtain ⟨es, r, a⟩ := E.er
  obtain ⟨o, f1, rr, k1, k2, _⟩ := r.foc (Env.lt (i := i) (by rw [h]; exact fun z => nomatch z))
  rw [h] at k2
  obtain ⟨_, v, rfl, h3⟩ := k2
  exact ⟨v, k1, h3⟩
theorem Env.geto [iA : Rp A] {x : A} {i : Nat} (E : Env K G0 G H L σ ρ) (h : sg ρ i = fz x) : EvO K (tVar i) σ G H (some x) := by
  obtain ⟨v, h1, h2⟩ := E.fzat h
  exact eo_v h1 h2
/-! statements -/
theorem Env.run [iA : Rp A] {m : Option A} {x : A} (E : Env K G0 G H L σ ρ) (h : EvO K te σ G H m) (hm : m = some x) {Q : VK} (k : forall v G2 H2, Gx G G2 -> Gx H H2 -> Env K G0 G2 H2 L σ ρ -> rp K G2 v x -> Q v H2) : te σ H Q := by
  obtain ⟨es, r, a⟩ := E.er
  exact h x hm G H _ Gx.rfl Gx.rfl a _ fun v G2 H2 g e a2 rv => k v G2 H2 g e ⟨E.g0.trans g, es, r.mono g, a2⟩ rv
theorem se_asg [iA : Rp A] {m : Option A} {x : A} (h : EvO K te σ G H m) (hm : m = some x) (E : Env K G0 G H L σ ρ) (k : forall σ2 G2 H2, Gx G G2 -> Env K G0 G2 H2 L σ2 (ss ρ i (fz x)) -> u X σ2 H2) : tSeq (tAsg te (gName i)) u X σ H :=
  E.run h hm fun v G2 H2 g _ E rv => k _ G2 H2 g (E.setF rv)
/-- where nothing is one's own, all that is read stays -/
theorem Env.runB [iA : Rp A] {m : Option A} {x : A} (E : Env K G0 G H [] σ ρ) (h : EvB K te σ H m) (hm : m = some x) (hρ : forall {es : Led}, ER K G σ ρ es -> es = []) {Q : VK} (k : forall v H2, Gx H H2 -> Env K G0 H2 H2 [] σ ρ -> rp K H2 v x -> Q v H2) : te σ H Q := by
  obtain ⟨es, r, a⟩ := E.er
  have e := hρ r
  subst e
  exact h x hm H Gx.rfl _ fun v H2 e rv => k v H2 e ⟨E.g0.trans (a.ex.trans e), [], r.mono (a.ex.trans e), At.nil H2⟩ rv
def nf : List Slot -> Bool
  | [] => true
  | .ow _ _ :: _ => false
  | _ :: r => nf r
theorem nf_er : forall {σ : L2.St} {ρ : List Slot} {es : Led}, nf ρ = true -> ER K G σ ρ es -> es = []
  | [], [], _, _, h => h
  | o :: σ, .un :: ρ, _, n, ⟨e1, e2, h1, h2, h3⟩ => by
    rw [h3, show e1 = [] from h1, nf_er (show nf ρ = true from n) h2]; rfl
  | o :: σ, .fz _ _ :: ρ, _, n, ⟨e1, e2, h1, h2, h3⟩ => by
    rw [h3, h1.1, nf_er (show nf ρ = true from n) h2]; rfl
  | o :: σ, .ow _ _ :: ρ, _, n, _ => nomatch n
  | [], _ :: _, _, _, h => h.elim
  | _ :: _, [], _, _, h => h.elim
theorem se_asgB [iA : Rp A] {m : Option A} {x : A} (h : EvB K te σ H m) (hm : m = some x) (E : Env K G0 G H [] σ ρ) (hn : nf ρ = true) (k : forall σ2 G2 H2, Gx G G2 -> Env K G0 G2 H2 [] σ2 (ss ρ i (fz x)) -> u X σ2 H2) : tSeq (tAsg te (gName i)) u X σ H :=
  E.runB h hm (nf_er hn) fun v H2 e E' rv => k _ H2 H2 (E.gH.trans e) (E'.setF rv)
/-! targets -/
def TgE {I : Type} [Rp I] (K : Fg) (g : TG) (up : I -> List Slot -> List Slot) : Prop := forall (x : I) v σ G0 G H L ρ (Q : L2.St -> Hp -> Prop), Env K G0 G H L σ ρ -> rp K G v x -> (forall σ2, Env K G0 G H L σ2 (up x ρ) -> Q σ2 H) -> g v σ H Q
theorem te_n {A : Type} [Rp A] {j : Nat} : TgE (I := A) K (gName j) (fun x ρ => ss ρ j (fz x)) := fun x v σ G0 G H L ρ Q E r q => q _ (E.setF r)
theorem te_p {A B : Type} [Rp A] [Rp B] {g1 g2 : TG} {u1 : A -> List Slot -> List Slot} {u2 : B -> List Slot -> List Slot} (h1 : TgE K g1 u1) (h2 : TgE K g2 u2) : TgE (I := A × B) K (gTup K 2 (gCons g1 (gCons g2 gNil))) (fun x ρ => u2 x.2 (u1 x.1 ρ)) := fun x v σ G0 G H L ρ Q E r q => by
  obtain ⟨a, u, w, rfl, e0, r1, r2⟩ := r
  exact ⟨a, [u, w], rfl, SqT.of (E.gH _ _ e0), rfl, u, [w], rfl, h1 x.1 u σ G0 G H L ρ _ E r1 fun σ1 q1 => ⟨w, [], rfl, h2 x.2 w σ1 G0 G H L _ _ q1 r2 fun σ2 q2 => ⟨rfl, q σ2 q2⟩⟩⟩
theorem te_3 {A B C : Type} [Rp A] [Rp B] [Rp C] {g1 g2 g3 : TG} {u1 : A -> List Slot -> List Slot} {u2 : B -> List Slot -> List Slot} {u3 : C -> List Slot -> List Slot} (h1 : TgE K g1 u1) (h2 : TgE K g2 u2) (h3 : TgE K g3 u3) :
    TgE (I := T3 A B C) K (gTup K 3 (gCons g1 (gCons g2 (gCons g3 gNil)))) (fun x ρ => u3 x.c (u2 x.b (u1 x.a ρ))) := fun x v σ G0 G H L ρ Q E r q => by
  obtain ⟨a, u, w, z, rfl, e0, r1, r2, r3⟩ := r
  exact ⟨a, [u, w, z], rfl, SqT.of (E.gH _ _ e0), rfl, u, [w, z], rfl, h1 x.a u σ G0 G H L ρ _ E r1 fun σ1 q1 => ⟨w, [z], rfl, h2 x.b w σ1 G0 G H L _ _ q1 r2 fun σ2 q2 => ⟨z, [], rfl, h3 x.c z σ2 G0 G H L _ _ q2 r3 fun σ3 q3 => ⟨rfl, q σ3 q3⟩⟩⟩⟩
theorem se_asgP [iA : Rp A] {g : TG} {up : A -> List Slot -> List Slot} {m : Option A} {x : A} (h : EvO K te σ G H m) (hm : m = some x) (hg : TgE K g up) (E : Env K G0 G H L σ ρ) (k : forall σ2 G2 H2, Gx G G2 -> Env K G0 G2 H2 L σ2 (up x ρ) -> u X σ2 H2) : tSeq (tAsg te g) u X σ H :=
  E.run h hm fun v G2 H2 g2 _ E rv => hg x v σ G0 G2 H2 L ρ _ E rv fun σ2 E2 => k σ2 G2 H2 g2 E2
theorem se_asgPB [iA : Rp A] {g : TG} {up : A -> List Slot -> List Slot} {m : Option A} {x : A} (h : EvB K te σ H m) (hm : m = some x) (hg : TgE K g up) (E : Env K G0 G H [] σ ρ) (hn : nf ρ = true) (k : forall σ2 G2 H2, Gx G G2 -> Env K G0 G2 H2 [] σ2 (up x ρ) -> u X σ2 H2) : tSeq (tAsg te g) u X σ H :=
  E.runB h hm (nf_er hn) fun v H2 e E' rv => hg x v σ G0 H2 H2 [] ρ _ E' rv fun σ2 E2 => k σ2 H2 H2 (E.gH.trans e) E2
/-- .. within a comprehension -/
def BdE {I : Type} (K : Fg) (b : Bd I) (up : I -> List Slot -> List Slot) : Prop := forall x σ H σ2 ρ, EB K H σ ρ -> b x σ H σ2 -> EB K H σ2 (up x ρ)
theorem bd_n {A : Type} [Rp A] {j : Nat} : BdE K (bN A K j) (fun x ρ => ss ρ j (fz x)) := fun x σ H σ2 ρ B ⟨v, r, e⟩ => by
  subst e
  exact B.set ⟨v, rfl, r⟩
theorem bd_p {A B : Type} {b1 : Bd A} {b2 : Bd B} {u1 : A -> List Slot -> List Slot} {u2 : B -> List Slot -> List Slot} (h1 : BdE K b1 u1) (h2 : BdE K b2 u2) : BdE K (bP b1 b2) (fun x ρ => u2 x.2 (u1 x.1 ρ)) := fun x σ H σ2 ρ B ⟨σ1, q1, q2⟩ => h2 _ _ _ _ _ (h1 _ _ _ _ _ B q1) q2
theorem bd_3 {A B C : Type} {b1 : Bd A} {b2 : Bd B} {b3' : Bd C} {u1 : A -> List Slot -> List Slot} {u2 : B -> List Slot -> List Slot} {u3 : C -> List Slot -> List Slot} (h1 : BdE K b1 u1) (h2 : BdE K b2 u2) (h3 : BdE K b3' u3) : BdE K (b3 b1 b2 b3') (fun x ρ => u3 x.c (u2 x.b (u1 x.a ρ))) := fun x σ H σ2 ρ B ⟨σ1, σ3, q1, q2, q3⟩ => h3 _ _ _ _ _ (h2 _ _ _ _ _ (h1 _ _ _ _ _ B q1) q2) q3
theorem se_if {m : Option Bool} {b : Bool} (h : EvT tt σ H m) (hm : m = some b) (E : Env K G0 G H L σ ρ) (k1 : b = true -> forall H2, Env K G0 G H2 L σ ρ -> t1 { X with nx := u X } σ H2) (k2 : b = false -> forall H2, Env K G0 G H2 L σ ρ -> t2 { X with nx := u X } σ H2) : tSeq (tIfS tt t1 t2) u X σ H :=
  st_if h hm (fun e H2 g => k1 e H2 (E.grow g)) fun e H2 g => k2 e H2 (E.grow g)
theorem se_drop [iA : Rp A] {m : Option A} {x : A} (h : EvB K te σ H m) (hm : m = some x) (E : Env K G0 G H L σ ρ) (k : forall H2, Env K G0 G H2 L σ ρ -> u X σ H2) : tSeq (tDrop te) u X σ H := h x hm H Gx.rfl _ fun _ H2 e _ => k H2 (E.grow e)
theorem se_aug {f : Int -> Int -> Int} {m : Option Int} {x y : Int} (hx : sg ρ i = fz x) (h : EvB K te σ H m) (hm : m = some y) (E : Env K G0 G H L σ ρ) (k : forall σ2 H2, Env K G0 G H2 L σ2 (ss ρ i (fz (f x y))) -> u X σ2 H2) : tSeq (tAug i te (ipI f)) u X σ H := by
  obtain ⟨v, h1, h2⟩ := E.fzat hx
  cases (show v = V.int x from h2)
  exact st_aug h1 h hm fun H2 e => k _ H2 ((E.grow e).setF rfl)
end
end Pu

set_option Elab.async false
set_option linter.all false
set_option maxRecDepth 100000
namespace Pu
open Pu.Rp (rp)
open PySem PySem.Spec PyProof.Rows L2
section
variable {K : Fg} {A B C I : Type} {σ : L2.St} {G0 G G' H H' : Hp} {L L' : Led} {ρ ρ' : List Slot} {s t : Slot} {o o' : Option V} {e1 es r : Led} {te ta tb tc : TE} {tt tu : TT} {X : Ends} {t1 t2 u : TS} {i j : Nat}
/-- a list whose items stay as they are; a dict with texts as keys, likewise -/
def oL (A : Type) [Rp A] : Ow (List A) where
  rd := inferInstance
  ow K G v x es := exists p vs, v = .ref p ∧ es = [(p, HO.lst vs)] ∧ Al (rp K G) vs x
  mono g := fun ⟨p, vs, h1, h2, h3⟩ => ⟨p, vs, h1, h2, h3.mono fun _ _ => Rp.mono g⟩
  see g hl := fun ⟨p, vs, h1, h2, h3⟩ => ⟨p, vs, h1, by subst h2; exact hl _ List.mem_cons_self, h3.mono fun _ _ => Rp.mono g⟩
def oS (A : Type) [Rp A] : Ow (Ds A) where
  rd := inferInstance
  ow K G v x es := exists p kvs, v = .ref p ∧ es = [(p, HO.dK kvs)] ∧ Da' (rp K G) kvs x.l
  mono g := fun ⟨p, vs, h1, h2, h3⟩ => ⟨p, vs, h1, h2, h3.mono fun _ _ => Rp.mono g⟩
  see g hl := fun ⟨p, vs, h1, h2, h3⟩ => ⟨p, vs, h1, .inl (by subst h2; exact hl _ List.mem_cons_self), h3.mono fun _ _ => Rp.mono g⟩
/-! a place within a thing that is one's own: what stands there, and what the thing is with another one there -/
def Plc (K : Fg) (te : TE) (σ : L2.St) (H0 : Hp) (i : Nat) {A B : Type} (dA : Ow A) (dB : Ow B) (x : A) (b : B) (set : B -> A) : Prop :=
  forall G H v es L, Gx H0 H -> σ[i]? = some (some v) -> dA.ow K G v x es -> At G H (es ++ L) -> forall Q : VK,
    (forall vb eb r H2, Gx H H2 -> At G H2 (es ++ L) -> es.Perm (eb ++ r) -> dB.ow K G vb b eb -> (forall G' b' eb', Gx G G' -> dB.ow K G' vb b' eb' -> exists es', dA.ow K G' v (set b') es' ∧ es'.Perm (eb' ++ r)) -> Q vb H2) -> te σ H Q
theorem pl_v {dA : Ow A} {x : A} : Plc K (tVar i) σ H i dA dA x x id := fun G H v es L e hs h a Q q =>
  ⟨v, hs, q v es [] H Gx.rfl a (by rw [List.append_nil]) h fun G' b' eb' g h' => ⟨eb', h', by rw [List.append_nil]⟩⟩
/-- an attribute -/
structure Att2 {A F : Type} (d : Ow A) (cn : String) (f : Str) (dF : Ow F) (get : A -> F) (set : A -> F -> A) : Prop where
  at_ : forall {K : Fg} {G : Hp} {v : V} {x : A} {es : Led}, d.ow K G v x es -> exists a Cc dx fs w ef r, v = .ref a ∧ isC K cn Cc ∧ G a = some (.ins Cc dx fs) ∧ fs.lookup f = some w ∧ dF.ow K G w (get x) ef ∧ es.Perm (ef ++ r) ∧
    forall G' y ef', Gx G G' -> dF.ow K G' w y ef' -> exists es', d.ow K G' v (set x y) es' ∧ es'.Perm (ef' ++ r)
theorem pl_at {F : Type} {dA : Ow A} {dB : Ow B} {dF : Ow F} {cn : String} {f : Str} {get : B -> F} {set : B -> F -> B} {x : A} {b : B} {sA : B -> A} {Cc : Addr} (h : Att2 dB cn f dF get set) (iC : isC K cn Cc) (cl : Cls K Cc) (na : NoAttr K Cc f) (p : Plc K te σ H i dA dB x b sA) :
    Plc K (tFld K te f) σ H i dA dF x (get b) (fun y => sA (set b y)) := fun G H v es L e hs ho a Q q =>
  p G H v es L e hs ho a _ fun vb eb r H2 g a2 pm hb back => by
    obtain ⟨a', C', dx, fs, w, ef, r2, rfl, i2, h2, h3, h4, h5, h6⟩ := h.at_ hb
    cases isC.uniq i2 iC
    refine ⟨a', _, dx, fs, w, rfl, a2.ex _ _ h2, cl, na, h3, q w ef (r2 ++ r) H2 g a2 (pm.trans (by rw [← List.append_assoc]; exact h5.append_right r)) h4 fun G' y ef' g' hy => ?_⟩
    obtain ⟨eb', k1, k2⟩ := h6 G' y ef' g' hy
    obtain ⟨es', k3, k4⟩ := back G' _ eb' g' k1
    exact ⟨es', k3, k4.trans (by rw [← List.append_assoc]; exact k2.append_right r)⟩
/-- what is one's own in a slot, taken out and put back -/
theorem Env.plc {dA : Ow A} {dB : Ow B} {x : A} {b : B} {set : B -> A} (E : Env K G0 G H L σ ρ) (hs : sg ρ i = ow dA x) (p : Plc K te σ H i dA dB x b set) {Q : VK}
    (k : forall vb eb r H2, Gx H H2 -> At G H2 (eb ++ r) -> dB.ow K G vb b eb -> (forall G' b' eb' H', Gx G G' -> dB.ow K G' vb b' eb' -> At G' H' (eb' ++ r) -> Env K G0 G' H' L σ (ss ρ i (ow dA (set b')))) -> Q vb H2) : te σ H Q := by
  obtain ⟨es, r, a⟩ := E.er
  have hi : i < ρ.length := Env.lt (i := i) (by rw [hs]; exact fun z => nomatch z)
  obtain ⟨o, f1, rr, k1, k2, k3, k4⟩ := r.foc hi
  rw [hs] at k2
  obtain ⟨v, rfl, hv⟩ := k2
  have a2 := a.perm (k3.append_right L)
  rw [List.append_assoc] at a2
  refine p G H v f1 (rr ++ L) Gx.rfl k1 hv a2 _ fun vb eb r2 H2 g a3 pm hb back => k vb eb (r2 ++ (rr ++ L)) H2 g (a3.perm (by have z := pm.append_right (rr ++ L); rwa [List.append_assoc] at z)) hb fun G' b' eb' H' g' hb' a4 => ?_
  obtain ⟨es', q1, q2⟩ := back G' b' eb' g' hb'
  obtain ⟨es2, w1, w2⟩ := k4 (s' := ow dA (set b')) (o' := some v) (e' := es') g' ⟨v, rfl, q1⟩
  have es_ : σ.set i (some v) = σ := List.ext_getElem? fun n => by
    by_cases e : i = n
    · subst e
      rw [List.getElem?_set_self (List.getElem?_eq_some_iff.mp k1).1, k1]
    · rw [List.getElem?_set_ne e]
  rw [es_] at w1
  refine ⟨E.g0.trans g', es2, w1, a4.perm ?_⟩
  rw [← List.append_assoc, ← List.append_assoc]
  refine List.Perm.append_right L ?_
  exact (q2.symm.append_right rr).trans w2.symm
/-! lists that are changed -/
theorem se_new [iA : Rp A] (E : Env K G0 G H L σ ρ) (hi : i < ρ.length) (k : forall σ2 H2, Env K G0 G H2 L σ2 (ss ρ i (ow (oL A) [])) -> u X σ2 H2) : tSeq (tAsg (tLst tNil) (gName i)) u X σ H := by
  obtain ⟨es, r, a⟩ := E.er
  refine ⟨by decide, fun p hp => k _ _ (Env.setO (e := [(p, HO.lst [])]) ⟨E.g0, es, r, ?_⟩ hi ⟨p, [], rfl, rfl, trivial⟩)⟩
  have a2 : At G (upd H p (.lst [])) ((p, .lst []) :: (es ++ L)) := a.add hp trivial
  exact a2.perm List.perm_middle.symm
theorem Env.own (E : Env K G0 G H L σ ρ) {p : Addr} {o : HO} (hp : H p = none) (h2 : H' p = some o) (g : Gx H H') (m : Mu o) : exists G2, Gx G G2 ∧ Tx H' G2 ∧ Env K G0 G2 H' ([(p, o)] ++ L) σ ρ := by
  obtain ⟨es, r, a⟩ := E.er
  have a1 := a.grow g
  have hn : p ∉ (es ++ L).map (·.1) := a.fresh hp
  have a2 : At G H' ((p, o) :: (es ++ L)) := ⟨a1.ex, List.nodup_cons.mpr ⟨hn, a1.nd⟩, fun q hq => by
    rcases List.mem_cons.mp hq with rfl | hq
    · exact ⟨h2, a.ex.back hp, m⟩
    · exact a1.led q hq⟩
  refine ⟨hid H' ((p, o) :: (es ++ L)), a2.gh, a2.tx, E.g0.trans a2.gh, es, r.mono a2.gh, a2.hid.perm ?_⟩
  exact List.perm_middle.symm
theorem se_newM [iA : Rp A] [Im A] {m : Option (List A)} {x : List A} (h : EvN K te σ H m) (hm : m = some x) (E : Env K G0 G H L σ ρ) (hi : i < ρ.length) (k : forall σ2 G2 H2, Gx G G2 -> Env K G0 G2 H2 L σ2 (ss ρ i (ow (oL A) x)) -> u X σ2 H2) : tSeq (tAsg te (gName i)) u X σ H :=
  h x hm H Gx.rfl _ fun p vs H2 hp g h2 r => by
    obtain ⟨G2, g2, tx, E2⟩ := E.own hp h2 g (o := .lst vs) trivial
    exact k _ G2 H2 g2 (E2.setO hi ⟨p, vs, rfl, rfl, r.mono fun _ _ => Im.im tx⟩)
theorem se_app [iA : Rp A] {dA : Ow B} {x : B} {xs : List A} {set : List A -> B} {m : Option A} {y : A} (hs : sg ρ i = ow dA x) (p : Plc K ta σ H i dA (oL A) x xs set) (h : EvO K te σ G H m) (hm : m = some y) (E : Env K G0 G H L σ ρ) (hz : xs.length < 100000)
    (k : forall G2 H2, Gx G G2 -> Env K G0 G2 H2 L σ (ss ρ i (ow dA (set (xs ++ [y])))) -> u X σ H2) : tSeq (tDrop (tBM K "list" rAppend ta (tCons te tNil))) u X σ H := by
  refine E.plc hs p fun vb eb r H1 e1 a1 ⟨q, vs, ev, ee, al⟩ back => ?_
  subst ev
  subst ee
  have hq := (a1.led (q, .lst vs) (by simp)).1
  refine ⟨.inl ⟨rfl, _, SqL.of hq⟩, h y hm G H1 _ Gx.rfl e1 a1 _ fun w G2 H2 g e a2 rw' => ⟨q, vs, w, rfl, rfl, e _ _ hq, Evl.sz_lt (by rw [al.len]; exact hz), ?_⟩⟩
  exact k G2 _ g (back G2 _ [(q, .lst (vs ++ [w]))] _ g ⟨q, vs ++ [w], rfl, rfl, (al.mono fun _ _ => Rp.mono g).app (Al.one rw')⟩ (At.set (L1 := []) a2 trivial))
theorem se_ext [iA : Rp A] {dA : Ow B} {x : B} {xs ys : List A} {set : List A -> B} {m : Option (List A)} (hs : sg ρ i = ow dA x) (p : Plc K ta σ H i dA (oL A) x xs set) (h : EvO K te σ G H m) (hm : m = some ys) (E : Env K G0 G H L σ ρ) (hz : xs.length + ys.length ≤ 100000)
    (k : forall G2 H2, Gx G G2 -> Env K G0 G2 H2 L σ (ss ρ i (ow dA (set (xs ++ ys)))) -> u X σ H2) : tSeq (tDrop (tBM K "list" rExtend ta (tCons te tNil))) u X σ H := by
  refine E.plc hs p fun vb eb r H1 e1 a1 ⟨q, vs, ev, ee, al⟩ back => ?_
  subst ev
  subst ee
  have hq := (a1.led (q, .lst vs) (by simp)).1
  refine ⟨.inl ⟨rfl, _, SqL.of hq⟩, h ys hm G H1 _ Gx.rfl e1 a1 _ fun w G2 H2 g e a2 rw' => ?_⟩
  obtain ⟨b, ws, rfl, h2, h3⟩ := rw'
  refine ⟨q, b, vs, ws, rfl, rfl, e _ _ hq, a2.ex _ _ h2, Evl.sz_of (by rw [al.len, h3.len]; exact hz), ?_⟩
  exact k G2 _ g (back G2 _ [(q, .lst (vs ++ ws))] _ g ⟨q, vs ++ ws, rfl, rfl, (al.mono fun _ _ => Rp.mono g).app h3⟩ (At.set (L1 := []) a2 trivial))
theorem se_clear [iA : Rp A] {dA : Ow B} {x : B} {xs : List A} {set : List A -> B} (hs : sg ρ i = ow dA x) (p : Plc K ta σ H i dA (oL A) x xs set) (E : Env K G0 G H L σ ρ)
    (k : forall H2, Env K G0 G H2 L σ (ss ρ i (ow dA (set []))) -> u X σ H2) : tSeq (tDrop (tBM0 K "list" rClear ta)) u X σ H := by
  refine E.plc hs p fun vb eb r H1 e1 a1 ⟨q, vs, ev, ee, al⟩ back => ?_
  subst ev
  subst ee
  have hq := (a1.led (q, .lst vs) (by simp)).1
  exact ⟨.inl ⟨rfl, _, SqL.of hq⟩, q, vs, rfl, rfl, hq, k _ (back G _ [(q, .lst [])] _ Gx.rfl ⟨q, [], rfl, rfl, trivial⟩ (At.set (L1 := []) a1 trivial))⟩
theorem se_pop [iA : Rp A] {dA : Ow B} {x : B} {xs : List A} {set : List A -> B} {y : A} {g : TG} {up : A -> List Slot -> List Slot} (hs : sg ρ i = ow dA x) (p : Plc K ta σ H i dA (oL A) x xs set) (hx : xs[xs.length - 1]? = some y) (hg : TgE K g up) (E : Env K G0 G H L σ ρ)
    (k : forall σ2 H2, Env K G0 G H2 L σ2 (up y (ss ρ i (ow dA (set xs.dropLast)))) -> u X σ2 H2) : tSeq (tAsg (tBM0 K "list" rPop ta) g) u X σ H := by
  refine E.plc hs p fun vb eb r H1 e1 a1 ⟨q, vs, ev, ee, al⟩ back => ?_
  subst ev
  subst ee
  have hq := (a1.led (q, .lst vs) (by simp)).1
  obtain ⟨v, hv, rv⟩ := al.get hx
  rw [← al.len] at hv
  have E2 := back G xs.dropLast [(q, .lst vs.dropLast)] _ Gx.rfl ⟨q, vs.dropLast, rfl, rfl, al_dl al⟩ (At.set (L1 := []) (o' := .lst vs.dropLast) a1 trivial)
  exact ⟨Or.inl ⟨rfl, vs, SqL.of hq⟩, q, vs, v, rfl, rfl, hq, hv, hg y v σ G0 G _ L _ _ E2 rv fun σ2 q2 => k σ2 _ q2⟩
theorem se_setL [iA : Rp A] {dA : Ow B} {x : B} {xs : List A} {set : List A -> B} {m : Option A} {y : A} {mi : Option Int} {n : Int} {j' : Nat} (hs : sg ρ i = ow dA x) (p : forall H', Plc K ta σ H' i dA (oL A) x xs set) (h : EvO K te σ G H m) (hm : m = some y) (hI : EvB K tb σ H mi) (hn : mi = some n) (E : Env K G0 G H L σ ρ) (hj : ixN xs.length n = some j')
    (k : forall G2 H2, Gx G G2 -> Env K G0 G2 H2 L σ (ss ρ i (ow dA (set (xs.set j' y)))) -> u X σ H2) : tSeq (tAsg te (gSub ta tb rSetL)) u X σ H := by
  refine E.run h hm fun w G2 H2 g e E2 rw' => ?_
  refine E2.plc hs (p H2) fun vb eb r H3 e3 a3 ⟨q, vs, ev, ee, al⟩ back => ?_
  subst ev
  subst ee
  have hq := (a3.led (q, .lst vs) (by simp)).1
  refine hI n hn H3 (e.trans e3) _ fun z H4 e4 rz => ?_
  cases (show z = V.int n from rz)
  have hj2 : ixN vs.length n = some j' := by rw [al.len]; exact hj
  refine ⟨q, vs, n, j', rfl, rfl, e4 _ _ hq, hj2, ?_⟩
  exact k G2 _ g (back G2 _ [(q, .lst (vs.set j' w))] _ Gx.rfl ⟨q, vs.set j' w, rfl, rfl, Al.set rw' j' al⟩ (At.set (L1 := []) (a3.grow e4) trivial))
/-! dicts with texts as keys -/
theorem se_dnew [iA : Rp A] (E : Env K G0 G H L σ ρ) (hi : i < ρ.length) (k : forall σ2 H2, Env K G0 G H2 L σ2 (ss ρ i (ow (oS A) ⟨[]⟩)) -> u X σ2 H2) : tSeq (tAsg tDNewK (gName i)) u X σ H := by
  obtain ⟨es, r, a⟩ := E.er
  refine fun p hp => k _ _ (Env.setO (e := [(p, HO.dK [])]) ⟨E.g0, es, r, ?_⟩ hi ⟨p, [], rfl, rfl, trivial⟩)
  have a2 : At G (upd H p (.dK [])) ((p, .dK []) :: (es ++ L)) := a.add hp trivial
  exact a2.perm List.perm_middle.symm
theorem se_dput [iA : Rp A] {dA : Ow B} {x : B} {xs : Ds A} {set : Ds A -> B} {m : Option A} {y : A} {mk : Option Str} {key : Str} (hs : sg ρ i = ow dA x) (p : forall H', Plc K ta σ H' i dA (oS A) x xs set) (h : EvO K te σ G H m) (hm : m = some y) (hk : EvB K tb σ H mk) (hn : mk = some key) (E : Env K G0 G H L σ ρ) (hz : xs.l.length < 100000)
    (k : forall G2 H2, Gx G G2 -> Env K G0 G2 H2 L σ (ss ρ i (ow dA (set ⟨sput xs.l key y⟩))) -> u X σ H2) : tSeq (sDPut ta tb te) u X σ H := by
  refine E.run h hm fun w G2 H2 g e E2 rw' => ?_
  refine E2.plc hs (p H2) fun vb eb r H3 e3 a3 ⟨q, kvs, ev, ee, al⟩ back => ?_
  subst ev
  subst ee
  have hq := (a3.led (q, .dK kvs) (by simp)).1
  refine hk key hn H3 (e.trans e3) _ fun z H4 e4 rz => ?_
  cases (show z = V.str key from rz)
  refine ⟨q, _, rfl, DPut.k (k := Sum.inr key) (e4 _ _ hq) (by rw [al.len]; exact Evl.sz_lt hz), ?_⟩
  exact k G2 _ g (back G2 _ [(q, .dK (putK kvs (.inr key) w))] _ Gx.rfl ⟨q, _, rfl, rfl, al.put rw'⟩ (At.set (L1 := []) (a3.grow e4) trivial))
/-! loops -/
theorem se_for [iI : Rp I] {wi : TI} {g : TG} {mx : Option (List I)} {xs : List I} (hi : EvIO K wi σ G H mx) (hx : mx = some xs) (E : Env K G0 G H L σ ρ)
    (k : forall J S0 H2, Gx G S0 -> Env K G0 S0 H2 L σ ρ -> WkO K J xs S0 -> exists W : Nat -> Nat -> L2.St -> Hp -> Prop, (exists m, W 0 m σ H2) ∧ forall i m σ H, W i m σ H ->
      (J.stop i H ∧ u X σ H) ∨ (J.go i H ∧ exists N : L2.St -> Hp -> Prop, (forall σ' H', N σ' H' -> exists m', m' < m ∧ W (i + 1) m' σ' H') ∧ forall x H', J.yld i H x H' -> g x σ H' fun σ2 H2 => t1 { X with nx := N, ct := N, bk := u X } σ2 H2)) : tSeq (tFor wi g t1) u X σ H := by
  obtain ⟨es, r, a⟩ := E.er
  exact hi xs hx G H _ Gx.rfl Gx.rfl a _ fun J S0 H2 g0 a0 wk => k J S0 H2 g0 ⟨E.g0.trans g0, es, r.mono g0, a0⟩ wk
section
variable {S R : Type} [iI : Rp I] {J : It} {g : TG} {up : I -> List Slot -> List Slot} {xs : List I} {S0 : Hp} {s0 : S} {E0 : Ends} {H2 : Hp} {E1 : L2.St -> Hp -> Prop}
theorem Env.yld {w : WkO K J xs S0} {n : Nat} {v : V} {x : I} {Hy : Hp} (E : Env K G0 G H L σ ρ) (wk : WkO K J xs S0) (gS : Gx S0 G) (hx : xs[n]? = some x) (hy : J.yld n H v Hy) : exists G2, Gx G G2 ∧ Env K G0 G2 Hy L σ ρ ∧ rp K G2 v x := by
  obtain ⟨es, r, a⟩ := E.er
  obtain ⟨G2, g2, a2, ry⟩ := wk.2.2 n G H _ v Hy x gS a hx hy
  exact ⟨G2, g2, ⟨E.g0.trans g2, es, r.mono g2, a2⟩, ry⟩
theorem se_loop {f : S -> I -> Option (S ⊕ R)} {res : S ⊕ R} (ρs : S -> List Slot) (wk : WkO K J xs S0) (hl : loopM f s0 xs = some res) (hg : TgE K g up) (E : Env K G0 S0 H2 L σ (ρs s0))
    (hs : forall s x o σ' G' H', x ∈ xs -> f s x = some o -> (forall r, o = .inr r -> res = .inr r) -> Env K S0 G' H' L σ' (up x (ρs s)) ->
      t1 { E0 with nx := fun σ H => exists s' G, o = .inl s' ∧ Env K S0 G H L σ (ρs s'), ct := fun σ H => exists s' G, o = .inl s' ∧ Env K S0 G H L σ (ρs s'), bk := E1 } σ' H')
    (hd : forall s1 σ' G' H', res = .inl s1 -> Env K G0 G' H' L σ' (ρs s1) -> E1 σ' H') :
    exists W : Nat -> Nat -> L2.St -> Hp -> Prop, (exists m, W 0 m σ H2) ∧ forall i m σ H, W i m σ H ->
      (J.stop i H ∧ E1 σ H) ∨ (J.go i H ∧ exists N : L2.St -> Hp -> Prop, (forall σ' H', N σ' H' -> exists m', m' < m ∧ W (i + 1) m' σ' H') ∧ forall x H', J.yld i H x H' -> g x σ H' fun σ2 H2 => t1 { E0 with nx := N, ct := N, bk := E1 } σ2 H2) := by
  refine ⟨fun i m σ H => m = xs.length - i ∧ i ≤ xs.length ∧ exists s G', Gx S0 G' ∧ Env K S0 G' H L σ (ρs s) ∧ loopM f s (xs.drop i) = some res, ⟨xs.length, by simp, Nat.zero_le _, s0, S0, Gx.rfl, ⟨Gx.rfl, E.er⟩, hl⟩, ?_⟩
  rintro i m σ' Hc ⟨rfl, hle, s, Gc, gS, Ec, hm⟩
  have eS := gS.trans Ec.gH
  by_cases hlt : i < xs.length
  · rw [List.drop_eq_getElem_cons hlt] at hm
    cases hf : f s xs[i] with
    | none => unfold loopM at hm; rw [hf] at hm; cases hm
    | some o =>
      have hm' : bra (fun s' => loopM f s' (xs.drop (i + 1))) o = some res := by
        unfold loopM at hm; rw [hf] at hm; exact hm
      refine .inr ⟨wk.1 i Hc hlt eS, fun σ H => exists s' G, o = .inl s' ∧ Env K S0 G H L σ (ρs s'), fun σ3 H3 hN => ?_, fun v Hy hy => ?_⟩
      · obtain ⟨s', G3, rfl, h3⟩ := hN
        exact ⟨xs.length - (i + 1), by omega, rfl, hlt, s', G3, h3.g0, h3, hm'⟩
      · obtain ⟨G2, g2, E2, ry⟩ := Ec.yld (w := wk) wk gS (List.getElem?_eq_getElem hlt) hy
        refine hg _ v σ' S0 G2 Hy L _ _ E2 ry fun σ2 E3 => hs s xs[i] o σ2 G2 Hy (List.getElem_mem hlt) hf (fun r er => ?_) E3
        subst er
        exact (Option.some.inj hm').symm
  · have hi : i = xs.length := by omega
    subst hi
    rw [List.drop_length] at hm
    exact .inl ⟨wk.2.1 Hc eS, hd s σ' Gc Hc (Option.some.inj hm).symm ⟨E.g0.trans gS, Ec.er⟩⟩
theorem se_fold {f : S -> I -> Option S} {s1 : S} (ρs : S -> List Slot) (wk : WkO K J xs S0) (hl : foldO f s0 xs = some s1) (hg : TgE K g up) (E : Env K G0 S0 H2 L σ (ρs s0))
    (hs : forall s x s' σ' G' H', x ∈ xs -> f s x = some s' -> Env K S0 G' H' L σ' (up x (ρs s)) ->
      t1 { E0 with nx := fun σ H => exists G, Env K S0 G H L σ (ρs s'), ct := fun σ H => exists G, Env K S0 G H L σ (ρs s'), bk := E1 } σ' H')
    (hd : forall σ' G' H', Env K G0 G' H' L σ' (ρs s1) -> E1 σ' H') :
    exists W : Nat -> Nat -> L2.St -> Hp -> Prop, (exists m, W 0 m σ H2) ∧ forall i m σ H, W i m σ H ->
      (J.stop i H ∧ E1 σ H) ∨ (J.go i H ∧ exists N : L2.St -> Hp -> Prop, (forall σ' H', N σ' H' -> exists m', m' < m ∧ W (i + 1) m' σ' H') ∧ forall x H', J.yld i H x H' -> g x σ H' fun σ2 H2 => t1 { E0 with nx := N, ct := N, bk := E1 } σ2 H2) := by
  refine ⟨fun i m σ H => m = xs.length - i ∧ i ≤ xs.length ∧ exists s G', Gx S0 G' ∧ Env K S0 G' H L σ (ρs s) ∧ foldO f s (xs.drop i) = some s1, ⟨xs.length, by simp, Nat.zero_le _, s0, S0, Gx.rfl, ⟨Gx.rfl, E.er⟩, hl⟩, ?_⟩
  rintro i m σ' Hc ⟨rfl, hle, s, Gc, gS, Ec, hm⟩
  have eS := gS.trans Ec.gH
  by_cases hlt : i < xs.length
  · rw [List.drop_eq_getElem_cons hlt] at hm
    cases hf : f s xs[i] with
    | none => unfold foldO at hm; rw [hf] at hm; cases hm
    | some s' =>
      have hm' : foldO f s' (xs.drop (i + 1)) = some s1 := by
        unfold foldO at hm; rw [hf] at hm; exact hm
      refine .inr ⟨wk.1 i Hc hlt eS, fun σ H => exists G, Env K S0 G H L σ (ρs s'), fun σ3 H3 ⟨G3, h3⟩ => ⟨xs.length - (i + 1), by omega, rfl, hlt, s', G3, h3.g0, h3, hm'⟩, fun v Hy hy => ?_⟩
      obtain ⟨G2, g2, E2, ry⟩ := Ec.yld (w := wk) wk gS (List.getElem?_eq_getElem hlt) hy
      exact hg _ v σ' S0 G2 Hy L _ _ E2 ry fun σ2 E3 => hs s xs[i] s' σ2 G2 Hy (List.getElem_mem hlt) hf E3
  · have hi : i = xs.length := by omega
    subst hi
    rw [List.drop_length] at hm
    cases hm
    exact .inl ⟨wk.2.1 Hc eS, hd σ' Gc Hc ⟨E.g0.trans gS, Ec.er⟩⟩
theorem se_while {c : S -> Option Bool} {f : S -> Option S} {n : Nat} {s1 : S} (ρs : S -> List Slot) (hl : whileO c f n s0 = some s1) (E : Env K G0 G H L σ (ρs s0)) (hc : forall s σ' G' H', Env K G0 G' H' L σ' (ρs s) -> EvT tt σ' H' (c s))
    (hb : forall s o σ' G' H', c s = some true -> f s = some o -> Gx G G' -> Env K G0 G' H' L σ' (ρs s) -> t1 { X with nx := fun σ H => exists G2, Gx G G2 ∧ Env K G0 G2 H L σ (ρs o), ct := fun σ H => exists G2, Gx G G2 ∧ Env K G0 G2 H L σ (ρs o), bk := u X } σ' H')
    (hd : forall σ' G' H', Gx G G' -> Env K G0 G' H' L σ' (ρs s1) -> u X σ' H') : tSeq (tWhile tt t1) u X σ H := by
  refine st_whileO hl (fun s σ' H' => exists G', Gx G G' ∧ Env K G0 G' H' L σ' (ρs s)) ⟨G, Gx.rfl, E⟩ (fun s σ' H' hin => ?_) (fun s o σ' H' H2' hcm hf hin e => ?_) (fun σ' H' H2' hin e => ?_)
  · obtain ⟨G', g, E'⟩ := hin
    exact hc s σ' G' H' E'
  · obtain ⟨G', g, E'⟩ := hin
    exact hb s o σ' G' _ hcm hf g (E'.grow e)
  · obtain ⟨G', g, E'⟩ := hin
    exact hd σ' G' _ g (E'.grow e)
end
end
end Pu

set_option Elab.async false
set_option linter.all false
set_option maxRecDepth 100000
namespace Pu
open Pu.Rp (rp)
open PySem PySem.Spec PyProof.Rows L2
def SlF (K : Fg) (G : Hp) (o : Option V) : Slot -> Prop
  | .fz i x => exists v, o = some v ∧ i.rp K G v x
  | _ => True
/-- what of the slots stays as it is -/
def EF (K : Fg) (G : Hp) : L2.St -> List Slot -> Prop
  | [], [] => True
  | o :: σ, s :: ρ => SlF K G o s ∧ EF K G σ ρ
  | _, _ => False
section
variable {K : Fg} {A B C I : Type} {σ : L2.St} {G0 G G' H H' : Hp} {L L' : Led} {ρ ρ' : List Slot} {s t : Slot} {o o' : Option V} {e1 es r : Led} {te ta tb tc : TE} {tt tu : TT} {X : Ends} {t1 t2 u : TS} {i j : Nat}
theorem SlR.f : forall {s : Slot} {es : Led}, SlR K G o s es -> SlF K G o s
  | .un, _, _ => trivial
  | .fz i x, _, ⟨_, v, h2, h3⟩ => ⟨v, h2, h3⟩
  | .ow d x, _, _ => trivial
theorem ER.f : forall {σ : L2.St} {ρ : List Slot} {es : Led}, ER K G σ ρ es -> EF K G σ ρ
  | [], [], _, _ => trivial
  | o :: σ, s :: ρ, _, ⟨e1, e2, h1, h2, _⟩ => ⟨h1.f, ER.f h2⟩
  | [], _ :: _, _, h => h.elim
  | _ :: _, [], _, h => h.elim
theorem Env.ef (E : Env K G0 G H L σ ρ) : EF K G σ ρ := let ⟨es, r, a⟩ := E.er; r.f
theorem SlF.mono (g : Gx G G') : forall {s : Slot}, SlF K G o s -> SlF K G' o s
  | .un, _ => trivial
  | .fz i x, ⟨v, h2, h3⟩ => ⟨v, h2, i.mono g h3⟩
  | .ow d x, _ => trivial
theorem EF.mono (g : Gx G G') : forall {σ : L2.St} {ρ : List Slot}, EF K G σ ρ -> EF K G' σ ρ
  | [], [], _ => trivial
  | o :: σ, s :: ρ, ⟨h1, h2⟩ => ⟨h1.mono g, EF.mono g h2⟩
  | [], _ :: _, h => h.elim
  | _ :: _, [], h => h.elim
theorem EF.at_ : forall {i : Nat} {σ : L2.St} {ρ : List Slot}, EF K G σ ρ -> sg ρ i = .un ∨ exists o, σ[i]? = some o ∧ SlF K G o (sg ρ i)
  | _, [], [], _ => .inl rfl
  | 0, o :: σ, s :: ρ, ⟨h1, h2⟩ => .inr ⟨o, rfl, h1⟩
  | i + 1, o :: σ, s :: ρ, ⟨h1, h2⟩ => EF.at_ (i := i) h2
  | _, [], _ :: _, h => h.elim
  | _, _ :: _, [], h => h.elim
theorem EF.set : forall {i : Nat} {σ : L2.St} {ρ : List Slot}, EF K G σ ρ -> SlF K G o s -> EF K G (σ.set i o) (ss ρ i s)
  | _, [], [], _, _ => trivial
  | 0, _ :: σ, _ :: ρ, ⟨h1, h2⟩, h => ⟨h, h2⟩
  | i + 1, o :: σ, s :: ρ, ⟨h1, h2⟩, h => ⟨h1, EF.set (i := i) h2 h⟩
  | _, [], _ :: _, h, _ => h.elim
  | _, _ :: _, [], h, _ => h.elim
theorem EF.get [iA : Rp A] {x : A} {i : Nat} (B : EF K G σ ρ) (h : sg ρ i = fz x) : EvO K (tVar i) σ G H (some x) := by
  rcases B.at_ (i := i) with e | ⟨o, h1, h2⟩
  · rw [h] at e; cases e
  · rw [h] at h2
    obtain ⟨v, rfl, h3⟩ := h2
    exact eo_v h1 h3
theorem EB.getL [iA : Rp A] {x : List A} {i : Nat} (B : EB K H σ ρ) (h : sg ρ i = ow (oL A) x) : EvB K (tVar i) σ H (some x) := B.getO h
theorem EB.getS [iA : Rp A] {x : Ds A} {i : Nat} (B : EB K H σ ρ) (h : sg ρ i = ow (oS A) x) : EvB K (tVar i) σ H (some x) := B.getO h
/-- a list of one's own that stays as it is from now on -/
theorem Env.frzL [iA : Rp A] {x : List A} {i : Nat} (E : Env K G0 G H L σ ρ) (hs : sg ρ i = ow (oL A) x) : exists G2, Gx G G2 ∧ Env K G0 G2 H L σ (ss ρ i (fz x)) := by
  obtain ⟨es, r, a⟩ := E.er
  obtain ⟨o, f1, rr, k1, k2, k3, k4⟩ := r.foc (Env.lt (i := i) (by rw [hs]; exact fun z => nomatch z))
  rw [hs] at k2
  obtain ⟨v, rfl, p, vs, rfl, rfl, al⟩ := k2
  have a2 := a.perm (k3.append_right L)
  rw [List.append_assoc] at a2
  obtain ⟨g, a3⟩ := At.frz (L1 := []) a2
  obtain ⟨es', q1, q2⟩ := k4 (s' := fz x) (o' := some (.ref p)) (e' := []) g ⟨rfl, _, rfl, p, vs, rfl, upd_same, al.mono fun _ _ => Rp.mono g⟩
  have es_ : σ.set i (some (.ref p)) = σ := List.ext_getElem? fun n => by
    by_cases e : i = n
    · subst e
      rw [List.getElem?_set_self (List.getElem?_eq_some_iff.mp k1).1, k1]
    · rw [List.getElem?_set_ne e]
  rw [es_] at q1
  exact ⟨_, g, E.g0.trans g, es', q1, a3.perm (q2.symm.append_right L)⟩
/-! a def's own ways: what it is handed, what it tells -/
def PSe (K : Fg) {α β γ : Type} (pre : α -> List Slot) (f : α -> Option (β ⊕ γ)) (post : α -> β -> List Slot) (cls : γ -> String) (postE : α -> γ -> List Slot) : Sp := fun vs H Q E => exists G L a r, Env K G G H L (vs.map some) (pre a) ∧ f a = some r ∧
  (forall b, r = .inl b -> forall v G2 H2, Env K G G2 H2 L (some v :: vs.map some) (post a b) -> Q v H2) ∧ (forall c, r = .inr c -> forall Cc G2 H2, isC K (cls c) Cc -> Env K G G2 H2 L (vs.map some) (postE a c) -> E (.ref Cc) none H2)
/-- a place taken out of its slot -/
theorem Env.take {dA : Ow A} {dB : Ow B} {x : A} {b : B} {set : B -> A} (E : Env K G0 G H L σ ρ) (hs : sg ρ i = ow dA x) (p : Plc K te σ H i dA dB x b set) {Q : VK}
    (k : forall vb eb rr H2, Gx H H2 -> Env K G0 G H2 (eb ++ (rr ++ L)) σ (ss ρ i .un) -> dB.ow K G vb b eb -> (forall G0' G' b' eb' H' ρ', Gx G G' -> i < ρ'.length -> dB.ow K G' vb b' eb' -> Env K G0' G' H' (eb' ++ (rr ++ L)) σ ρ' -> Env K G0' G' H' L σ (ss ρ' i (ow dA (set b')))) -> Q vb H2) : te σ H Q := by
  obtain ⟨es, r, a⟩ := E.er
  have hi : i < ρ.length := Env.lt (i := i) (by rw [hs]; exact fun z => nomatch z)
  obtain ⟨o, f1, r1, k1, k2, k3, k4⟩ := r.foc hi
  rw [hs] at k2
  obtain ⟨v, rfl, hv⟩ := k2
  have a2 := a.perm (k3.append_right L)
  rw [List.append_assoc] at a2
  have es_ : σ.set i (some v) = σ := List.ext_getElem? fun n => by
    by_cases e : i = n
    · subst e
      rw [List.getElem?_set_self (List.getElem?_eq_some_iff.mp k1).1, k1]
    · rw [List.getElem?_set_ne e]
  refine p G H v f1 (r1 ++ L) Gx.rfl k1 hv a2 _ fun vb eb r2 H2 g a3 pm hb back => ?_
  obtain ⟨es', q1, q2⟩ := k4 (G' := G) (s' := .un) (o' := some v) (e' := []) Gx.rfl rfl
  rw [es_] at q1
  refine k vb eb r2 H2 g ⟨E.g0, es', q1, a3.perm ?_⟩ hb fun G0' G' b' eb' H' ρ' g' hi' hb' E' => ?_
  · have z1 : (f1 ++ (r1 ++ L)).Perm ((eb ++ r2) ++ (r1 ++ L)) := pm.append_right _
    have z2 : (es' ++ (eb ++ (r2 ++ L))).Perm (r1 ++ (eb ++ (r2 ++ L))) := by
      have := q2.append_right (eb ++ (r2 ++ L))
      simpa using this
    refine z1.trans (List.Perm.trans ?_ z2.symm)
    rw [List.append_assoc]
    exact Pu.p2
  · obtain ⟨es2, w1, w2⟩ := back G' b' eb' g' hb'
    obtain ⟨es3, r3, a4⟩ := E'.er
    obtain ⟨o2, f2, rr2, m1, m2, m3, m4⟩ := r3.foc hi'
    obtain ⟨es4, n1, n2⟩ := m4 (G' := G') (s' := ow dA (set b')) (o' := some v) (e' := es2) Gx.rfl ⟨v, rfl, w1⟩
    rw [es_] at n1
    refine ⟨E'.g0, es4, n1, ?_⟩
    have a5 := a4.perm (m3.append_right (eb' ++ (r2 ++ L)))
    rw [List.append_assoc] at a5
    have a6 := a5.drop1
    refine a6.perm ?_
    have z1 : (es4 ++ L).Perm ((es2 ++ rr2) ++ L) := n2.append_right L
    have z2 : ((es2 ++ rr2) ++ L).Perm (((eb' ++ r2) ++ rr2) ++ L) := (w2.append_right rr2).append_right L
    refine List.Perm.trans ?_ (z1.trans z2).symm
    rw [List.append_assoc, List.append_assoc]
    exact Pu.p2.symm
/-- a call, by what is handed in -/
theorem Env.callE {α β γ : Type} {pre : α -> List Slot} {f : α -> Option (β ⊕ γ)} {post : α -> β -> List Slot} {cls : γ -> String} {postE : α -> γ -> List Slot} {a : α} {rr : β ⊕ γ} {vs : List V} {eb L1 : Led} {Q : VK} {X : XK}
    (E : Env K G0 G H (eb ++ L1) σ ρ) (hp : ER K G (vs.map some) (pre a) eb) (hf : f a = some rr)
    (k : forall b, rr = .inl b -> forall v G2 H2 es2, Gx G G2 -> ER K G2 (some v :: vs.map some) (post a b) es2 -> Env K G0 G2 H2 (es2 ++ L1) σ ρ -> Q v H2)
    (kx : forall c, rr = .inr c -> forall Cc G2 H2 es2, isC K (cls c) Cc -> Gx G G2 -> ER K G2 (vs.map some) (postE a c) es2 -> Env K G0 G2 H2 (es2 ++ L1) σ ρ -> X (.ref Cc) none H2) : PSe K pre f post cls postE vs H Q X := by
  obtain ⟨es, r, at_⟩ := E.er
  have a2 : At G H (eb ++ (es ++ L1)) := at_.perm p1
  refine ⟨G, es ++ L1, a, rr, ⟨Gx.rfl, eb, hp, a2⟩, hf, fun b hb v G2 H2 E2 => ?_, fun c hc Cc G2 H2 iC E2 => ?_⟩
  · obtain ⟨es2, r2, a3⟩ := E2.er
    exact k b hb v G2 H2 es2 E2.g0 r2 ⟨E.g0.trans E2.g0, es, r.mono E2.g0, a3.perm p1⟩
  · obtain ⟨es2, r2, a3⟩ := E2.er
    exact kx c hc Cc G2 H2 es2 iC E2.g0 r2 ⟨E.g0.trans E2.g0, es, r.mono E2.g0, a3.perm p1⟩
/-- at the end of a def: the arguments' slots alone, and what it tells -/
theorem ER.split : forall {σ1 : L2.St} {ρ1 : List Slot} {σ2 : L2.St} {ρ2 : List Slot} {es : Led}, σ1.length = ρ1.length -> ER K G (σ1 ++ σ2) (ρ1 ++ ρ2) es -> exists e1 e2, ER K G σ1 ρ1 e1 ∧ ER K G σ2 ρ2 e2 ∧ es = e1 ++ e2
  | [], [], σ2, ρ2, es, _, h => ⟨[], es, rfl, h, rfl⟩
  | o :: σ1, s :: ρ1, σ2, ρ2, es, hl, ⟨e1, e2, h1, h2, h3⟩ => by
    obtain ⟨f1, f2, k1, k2, k3⟩ := ER.split (by simpa using hl) h2
    exact ⟨e1 ++ f1, f2, ⟨e1, f1, h1, k1, rfl⟩, k2, by rw [h3, k3, List.append_assoc]⟩
  | [], s :: ρ1, _, _, _, hl, _ => by simp at hl
  | o :: σ1, [], _, _, _, hl, _ => by simp at hl
theorem ER.join : forall {σ1 : L2.St} {ρ1 : List Slot} {σ2 : L2.St} {ρ2 : List Slot} {e1 e2 : Led}, ER K G σ1 ρ1 e1 -> ER K G σ2 ρ2 e2 -> ER K G (σ1 ++ σ2) (ρ1 ++ ρ2) (e1 ++ e2)
  | [], [], σ2, ρ2, e1, e2, h, h' => by
    have e : e1 = [] := h
    subst e
    exact h'
  | o :: σ1, s :: ρ1, σ2, ρ2, _, e2, ⟨f1, f2, h1, h2, h3⟩, h' => ⟨f1, f2 ++ e2, h1, ER.join h2 h', by rw [h3, List.append_assoc]⟩
  | [], s :: ρ1, _, _, _, _, h, _ => h.elim
  | o :: σ1, [], _, _, _, _, h, _ => h.elim
theorem er_nones : forall n : Nat, ER K G (List.replicate n none) (List.replicate n .un) []
  | 0 => rfl
  | n + 1 => ⟨[], [], rfl, er_nones n, rfl⟩
/-- at a def's beginning -/
theorem Env.start {vs : List V} (E : Env K G0 G H L (vs.map some) ρ) (n : Nat) : Env K G0 G H L (vs.map some ++ List.replicate n none) (ρ ++ List.replicate n .un) := by
  obtain ⟨es, r, a⟩ := E.er
  exact ⟨E.g0, es ++ [], ER.join r (er_nones n), by rw [List.append_nil]; exact a⟩
theorem sr_own [iA : Rp A] {x : List A} (E : Env K G0 G H L σ ρ) (hs : sg ρ i = ow (oL A) x) (k : forall p ws, G p = none -> H p = some (.lst ws) -> Al (rp K H) ws x -> X.rt (.ref p) H) : tSeq (tRet (tVar i)) u X σ H := by
  obtain ⟨es, r, a⟩ := E.er
  obtain ⟨o, f1, rr, k1, k2, k3, k4⟩ := r.foc (Env.lt (i := i) (by rw [hs]; exact fun z => nomatch z))
  rw [hs] at k2
  obtain ⟨v, rfl, p, vs, rfl, rfl, al⟩ := k2
  obtain ⟨h1, h2, _⟩ := a.led (p, .lst vs) (List.mem_append_left _ (k3.mem_iff.mpr (by simp)))
  exact sr_m k1 (k p vs h2 h1 (al.mono fun _ _ => Rp.mono a.ex))
end
/-! a folk -/
theorem fow_see {K : Fg} {G H : Hp} {v : V} {x : FolkS} {es : Led} (g : Gx G H) (hl : forall e, e ∈ es -> H e.1 = some e.2) : FoW K G v x es -> rp K H v x := fun ⟨p, C, dx, u, d, ps, h1, h2, h3, h4, h5, h6⟩ => by
  subst h6
  exact ⟨p, C, dx, u, d, _, h1, h2, g _ _ h3, Rp.mono g h4, hl _ List.mem_cons_self, ldl_da h5 fun e he => hl e (List.mem_cons_of_mem _ he)⟩
def oFolk : Ow FolkS where
  rd := inferInstance
  ow K G v x es := FoW K G v x es
  mono g h := fow_mono g h
  see g hl h := fow_see g hl h
theorem EB.getFolk {K : Fg} {σ : L2.St} {H : Hp} {ρ : List Slot} {x : FolkS} {i : Nat} (B : EB K H σ ρ) (h : sg ρ i = ow oFolk x) : EvB K (tVar i) σ H (some x) := B.getO h
end Pu

set_option Elab.async false
set_option linter.all false
set_option maxRecDepth 100000
namespace Pu
open Pu.Rp (rp)
open PySem PySem.Spec PySem.SeqAt PyProof.Rows L2
/-! a text is no dict -/
theorem str_eq_declines_dict (b : Str) (u : Tok) (l : Addr) (o : Obj) (es : Array DictEntry) (ep : Nat) (hc : o.cls = .type "dict") (hd : o.data = .dict es ep) :
    Meets (Builtin.«str.__eq__» ⟨[.str b u, .ref l], []⟩) (fun _ R s => s.heap.get? l = some o ∧ R (.ok (.ret .notImplemented)) s) :=
  .of_wp fun prog w A R s h => by
    obtain ⟨hp, g, d, tk, os⟩ := s; obtain ⟨hl, h⟩ := h
    obtain ⟨cls, dd, data, sl⟩ := o
    simp only at hc hd
    subst hc hd
    wp_walk using AutoSeq1.wpAny_loadPart' hl, wpAny_load hl; exact ⟨_, rfl, h⟩
theorem dict_eq_declines_str (b : Str) (u : Tok) (l : Addr) (o : Obj) (es : Array DictEntry) (ep : Nat) (hc : o.cls = .type "dict") (hd : o.data = .dict es ep) :
    Meets (Builtin.«dict.__eq__» ⟨[.ref l, .str b u], []⟩) (fun _ R s => s.heap.get? l = some o ∧ R (.ok (.ret .notImplemented)) s) :=
  .of_wp fun prog w A R s h => by
    obtain ⟨hp, g, d, tk, os⟩ := s; obtain ⟨hl, h⟩ := h
    obtain ⟨cls, dd, data, sl⟩ := o
    simp only at hc hd
    subst hc hd
    have f1 := F.sub_str_dict
    wp_walk using AutoSeq1.wpAny_loadPart' hl, wpAny_load hl; exact ⟨_, rfl, h⟩
theorem RcAt.str_dict {A : Around} {s : Shared} {l : Addr} {o : Obj} {es : Array DictEntry} {ep : Nat} (b : Str) (u : Tok) (ho : s.heap.get? l = some o) (hc : o.cls = .type "dict") (hd : o.data = .dict es ep) (hu : A.units < cLine) : RcAt A s (.str b u) (.ref l) false := fun prog w E Q h => by
  exact rc_eq_decline_or (k := false) (typeIs_str s b u) ⟨_, ho, hc⟩ (by decide) F.sub_dict_str F.slot_str_eq F.slot_dict_eq_refl
    (fun _ hq => call_meets F.slot_str_eq (typeIs_str s b u) F.entry_str_eq (F.args_str_eq_2 _ _) (str_eq_declines_dict b u l o es ep hc hd) ⟨ho, hq⟩)
    (fun _ hq => call_meets F.slot_dict_eq_refl ⟨_, ho, hc⟩ F.entry_dict_eq (F.args_dict_eq_2 _ _) (dict_eq_declines_str b u l o es ep hc hd) ⟨ho, hq⟩)
    (fun _ hq => wpAny_of_eq (rfl : isSame (.str b u) (.ref l) = pure false) hq) (.inr hu) h
theorem EqAt.str_dict {A : Around} {s : Shared} {l : Addr} {o : Obj} {es : Array DictEntry} {ep : Nat} (b : Str) (u : Tok) (ho : s.heap.get? l = some o) (hc : o.cls = .type "dict") (hd : o.data = .dict es ep) (hu : A.units < cLine) : EqAt A s (.str b u) (.ref l) false := fun prog w E Q h => by
  unfold eqBool
  refine wpAny_holding ?_
  refine wpAny_ite_split (fun hab => absurd (eq_of_beq hab) nofun) (fun _ => ?_)
  exact wpAny_bind (RcAt.str_dict b u ho hc hd hu prog w E _ (wpAny_truthy_bool h))
mutual
def encY : Dy -> Option PyData
  | .non => some .none
  | .bl b => some (.bool b)
  | .int i => some (.int i)
  | .str s => some (.str s)
  | .dct => none
  | .tup xs => (encYs xs).map .tuple
  | .lst xs => (encYs xs).map .list
def encYs : List Dy -> Option (List PyData)
  | [] => some []
  | x :: xs => (encY x).bind fun a => (encYs xs).map fun r => a :: r
end
section
variable {K : Fg} {H : Hp}
mutual
theorem encY_dp : forall (x : Dy) (v : V) (d : PyData), encY x = some d -> rpY K H x v -> Dp K H v d
  | .non, v, d, h, r => by rw [encY] at h; rw [rpY] at r; cases h; subst r; exact .non
  | .bl b, v, d, h, r => by rw [encY] at h; rw [rpY] at r; cases h; subst r; exact .bl b
  | .int b, v, d, h, r => by rw [encY] at h; rw [rpY] at r; cases h; subst r; exact .int b
  | .str b, v, d, h, r => by rw [encY] at h; rw [rpY] at r; cases h; subst r; exact .str b
  | .dct, v, d, h, r => by rw [encY] at h; cases h
  | .tup xs, v, d, h, r => by
    rw [encY] at h; rw [rpY] at r
    obtain ⟨ds, h1, rfl⟩ := Option.map_eq_some_iff.mp h
    obtain ⟨a, vs, rfl, h2, h3⟩ := r
    exact .tup (SqT.of h2) (encYs_dp xs vs ds h1 h3)
  | .lst xs, v, d, h, r => by
    rw [encY] at h; rw [rpY] at r
    obtain ⟨ds, h1, rfl⟩ := Option.map_eq_some_iff.mp h
    obtain ⟨a, vs, rfl, h2, h3⟩ := r
    exact .lst (SqL.of h2) (encYs_dp xs vs ds h1 h3)
theorem encYs_dp : forall (xs : List Dy) (vs : List V) (ds : List PyData), encYs xs = some ds -> rpYs K H xs vs -> DpAll K H vs ds
  | [], vs, ds, h, r => by rw [encYs] at h; rw [rpYs] at r; cases h; subst r; exact .nil
  | x :: xs, vs, ds, h, r => by
    rw [encYs] at h; rw [rpYs] at r
    obtain ⟨v, ws, rfl, h2, h3⟩ := r
    obtain ⟨a, h4, h⟩ := bnd h
    obtain ⟨rs, h5, rfl⟩ := Option.map_eq_some_iff.mp h
    exact .cons (encY_dp x v a h4 h2) (encYs_dp xs ws rs h5 h3)
end
theorem strs_dp : forall {vs : List V} {xs : List Str}, Al (rp K H) vs xs -> DpAll K H vs (xs.map PyData.str)
  | [], [], _ => .nil
  | v :: vs, x :: xs, h => by
    cases (show v = V.str x from h.1)
    exact .cons (.str x) (strs_dp h.2)
  | [], _ :: _, h => h.elim
  | _ :: _, [], h => h.elim
end
/-- a thing of any kind, sought in a list of texts -/
def fNinY (d : Dy) (xs : List Str) : Option Bool := match d with
  | .dct => some true
  | d => (encY d).bind fun e => if SeqAt.shaped e = true ∧ SeqAt.shaped (.list (xs.map PyData.str)) = true then some (!(xs.map PyData.str).any fun z => PyData.eqv z e) else none
def rNinY (K : Fg) : R2 := fun x y H Q => exists d xs b, rp K H x d ∧ rp K H y (xs : List Str) ∧ fNinY d xs = some b ∧ Q (.bl b) H
theorem op_ninY {X : Cx} {K : Fg} (hk : X.K = K) (hu : X.A.units + 65 < cLine) : OpR X (compareOp .NotIn) (rNinY K) := by
  subst hk
  intro pins s σ H x y v u Q I rx ry h
  obtain ⟨d, xs, b, hd, hy, hf, q⟩ := h
  obtain ⟨p, vs, rfl, h2, h3⟩ := hy
  by_cases hdc : d = .dct
  · subst hdc
    cases hf
    have hd' : rpY X.K H .dct x := hd
    rw [rpY] at hd'
    obtain ⟨a, rfl, ha⟩ := hd'
    cases (show v = Value.ref a from rx)
    cases (show u = Value.ref p from ry)
    obtain ⟨_, _, kvs, _, o, es, ep, ho, hx, hdt, _⟩ := dk_of I.hok ha
    obtain ⟨its, r, pl, hz⟩ := I.list (SqL.of h2)
    have hw : forall y, y ∈ its.toArray -> SeqAt.EqAt X.A.in1 s y (.ref a) false := fun y hy => by
      have ev := al_str h3
      subst ev
      have hy' : y ∈ its := by simpa using hy
      obtain ⟨i, hi, e⟩ := List.getElem_of_mem hy'
      have hl : i < (xs.map V.str).length := by rw [r.length]; exact hi
      obtain ⟨w, hw1, hw2⟩ := r.get (i := i) (x := (xs.map V.str)[i]) (List.getElem?_eq_getElem hl)
      rw [List.getElem?_eq_getElem hi, e] at hw1
      cases hw1
      rw [List.getElem_map] at hw2
      obtain ⟨t, rfl⟩ := hw2
      exact EqAt.str_dict _ t ho hx.1 hdt (by have : X.A.in1.units = X.A.units + 1 := rfl; omega)
    refine SeqAt.notIn_listAt (fun _ => false) pl.isList hw ⟨.bl _, H, I, rfl, ?_⟩
    have e : (!its.toArray.any fun _ => false) = true := by simp
    rw [e]; exact q
  · obtain ⟨e, he, hf'⟩ : exists e, encY d = some e ∧ (if SeqAt.shaped e = true ∧ SeqAt.shaped (.list (xs.map PyData.str)) = true then some (!(xs.map PyData.str).any fun z => PyData.eqv z e) else none) = some b := by
      unfold fNinY at hf
      split at hf
      · exact absurd rfl hdc
      · obtain ⟨e, he, hf⟩ := bnd hf
        exact ⟨e, he, hf⟩
    split at hf'
    · rename_i hs
      cases hf'
      exact op_notInD hu pins s σ H x _ v u Q I rx ry ⟨e, _, encY_dp d x e he hd, .lst (SqL.of h2) (strs_dp h3), hs.1, hs.2, q⟩
    · cases hf'
def fEqY (a b : Dy) : Option Bool := (encY a).bind fun x => (encY b).bind fun y => if SeqAt.shaped x = true ∧ SeqAt.shaped y = true then some (PyData.eqv x y) else none
def fUpper (a : Str) : Option Str := if a.length ≤ 100000 then some (Txt.upper a) else none
section
variable {K : Fg} {A B C : Type} [Rp A] [Rp B] [Rp C] {σ : L2.St} {H : Hp} {ta tb : TE}
theorem x_ninY {ma : Option Dy} {mb : Option (List Str)} (ha : EvB K ta σ H ma) (hb : EvB K tb σ H mb) : EvB K (tOp (rNinY K) ta tb) σ H (o2 fNinY ma mb) := eb_op (fun H x y a b c ra rb hc Q q => ⟨a, b, c, ra, rb, hc, q _ H Gx.rfl rfl⟩) ha hb
theorem x_eqY {ma mb : Option Dy} (ha : EvB K ta σ H ma) (hb : EvB K tb σ H mb) : EvB K (tOp (rEqD K) ta tb) σ H (o2 fEqY ma mb) := eb_op (fun H x y a b c ra rb hc Q q => by
  unfold fEqY at hc
  obtain ⟨d, h1, hc⟩ := bnd hc
  obtain ⟨e, h2, hc⟩ := bnd hc
  split at hc
  · rename_i hs
    cases hc
    exact ⟨d, e, encY_dp a x d h1 ra, encY_dp b y e h2 rb, hs.1, hs.2, q _ H Gx.rfl rfl⟩
  · cases hc) ha hb
theorem x_upper {ms : Option Str} (ha : EvB K ta σ H ms) : EvB K (tBM0 K "str" (fun x xs H Q => ∃ a, x = .str a ∧ xs = [] ∧ a.length ≤ 5592405 ∧ Q (.str (Txt.upper a)) H) ta) σ H (o1 fUpper ms) := fun x hx H1 e Q q => by
  obtain ⟨a, e1, e3⟩ := o1s hx
  unfold fUpper at e3
  split at e3
  · cases e3
    refine ha a e1 H1 e _ fun v H2 g2 r2 => ?_
    cases (show v = V.str a from r2)
    exact ⟨rfl, a, rfl, rfl, by omega, q _ H2 g2 rfl⟩
  · cases e3
end
end Pu

set_option Elab.async false
set_option linter.all false
set_option maxRecDepth 100000
namespace Pu
open Pu.Rp (rp)
open PySem PySem.Spec PyProof.Rows L2
/-- put, take of things of any kind: of a folk that is one's own -/
def PSmY (K : Fg) (f : FolkS -> Dy -> Dy -> Option (FolkS ⊕ String)) : Sp := fun vs H Q E => exists G L v x es vg vm g m r, vs = [v, vg, vm] ∧ At G H (es ++ L) ∧ FoW K G v x es ∧ rp K G vg g ∧ rp K G vm m ∧ f x g m = some r ∧
  (forall x', r = .inl x' -> forall G2 H2 es2, Gx G G2 -> At G2 H2 (es2 ++ L) -> FoW K G2 v x' es2 -> Q .non H2) ∧ (forall c, r = .inr c -> forall C G2 H2, isC K c C -> Gx G G2 -> At G2 H2 (es ++ L) -> E (.ref C) none H2)
theorem units65 {k : Nat} {A : Around} (r : Room k A) : A.units + 65 < cLine := by have := r.un; omega
end Pu

set_option Elab.async false
set_option linter.all false
set_option maxRecDepth 100000
namespace Pu
open Pu.Rp (rp)
open PySem PySem.Spec PyProof.Rows L2
/-- .. at the value v -/
def oPin (v : V) {A : Type} (d : Ow A) : Ow A where
  rd := d.rd
  ow K G u x es := u = v ∧ d.ow K G u x es
  mono g h := ⟨h.1, d.mono g h.2⟩
  see g hl h := d.see g hl h.2
section
variable {K : Fg} {A B C I : Type} {σ : L2.St} {G0 G G' H H' : Hp} {L L' : Led} {ρ ρ' : List Slot} {s t : Slot} {o o' : Option V} {e1 es r : Led} {te ta tb tc : TE} {tt tu : TT} {X : Ends} {t1 t2 u : TS} {i j : Nat}
theorem pl_pin {v : V} {d : Ow A} {x : A} : Plc K (tVar i) σ H i (oPin v d) d x x id := fun G H w es L e hs h a Q q =>
  ⟨w, hs, q w es [] H Gx.rfl a (by rw [List.append_nil]) h.2 fun G' b' eb' g h' => ⟨eb', ⟨h.1, h'⟩, by rw [List.append_nil]⟩⟩
theorem set_same {σ : L2.St} {i : Nat} {o : Option V} (h : σ[i]? = some o) : σ.set i o = σ := List.ext_getElem? fun n => by
  by_cases e : i = n
  · subst e
    rw [List.getElem?_set_self (List.getElem?_eq_some_iff.mp h).1, h]
  · rw [List.getElem?_set_ne e]
theorem Env.pin {v : V} {d : Ow A} {x : A} (E : Env K G0 G H L σ ρ) (hv : σ[i]? = some (some v)) (hs : sg ρ i = ow d x) : Env K G0 G H L σ (ss ρ i (ow (oPin v d) x)) := by
  obtain ⟨es, r, a⟩ := E.er
  obtain ⟨o, f1, rr, k1, k2, k3, k4⟩ := r.foc (Env.lt (i := i) (by rw [hs]; exact fun z => nomatch z))
  rw [hs] at k2
  rw [hv] at k1
  cases k1
  obtain ⟨w, hw, h⟩ := k2
  cases hw
  obtain ⟨es', q1, q2⟩ := k4 (s' := ow (oPin v d) x) (o' := some v) (e' := f1) Gx.rfl ⟨v, rfl, rfl, h⟩
  rw [set_same hv] at q1
  exact ⟨E.g0, es', q1, a.perm ((k3.trans q2.symm).append_right L)⟩
/-- the arguments' slots, as they are told at the end -/
def Fin : List V -> List Slot -> List Slot -> Prop
  | [], [], _ => True
  | _ :: vs, .un :: ps, _ :: ρ => Fin vs ps ρ
  | v :: vs, .ow d x :: ps, s :: ρ => s = .ow (oPin v d) x ∧ Fin vs ps ρ
  | _, _, _ => False
theorem ER.fin : forall {vs : List V} {ps ρ : List Slot} {σ : L2.St} {es : Led}, Fin vs ps ρ -> ER K G σ ρ es -> exists e1 d, ER K G (vs.map some) ps e1 ∧ es.Perm (d ++ e1)
  | [], [], ρ, σ, es, _, h => ⟨[], es, rfl, by rw [List.append_nil]⟩
  | v :: vs, .un :: ps, s :: ρ, o :: σ, es, f, ⟨f1, f2, h1, h2, h3⟩ => by
    obtain ⟨e1, d, k1, k2⟩ := ER.fin (vs := vs) (ps := ps) f h2
    exact ⟨e1, f1 ++ d, ⟨[], e1, rfl, k1, rfl⟩, by rw [h3, List.append_assoc]; exact k2.append_left f1⟩
  | v :: vs, .ow d x :: ps, s :: ρ, o :: σ, es, ⟨f0, f⟩, ⟨f1, f2, h1, h2, h3⟩ => by
    subst f0
    obtain ⟨w, rfl, rfl, hw⟩ := h1
    obtain ⟨e1, d', k1, k2⟩ := ER.fin (vs := vs) (ps := ps) f h2
    exact ⟨f1 ++ e1, d', ⟨f1, e1, ⟨_, rfl, hw⟩, k1, rfl⟩, by rw [h3]; exact (k2.append_left f1).trans p1⟩
  | v :: vs, .fz _ _ :: ps, s :: ρ, _, _, f, _ => f.elim
  | [], _ :: _, _, _, _, f, _ => f.elim
  | _ :: _, [], _, _, _, f, _ => f.elim
  | _ :: _, .un :: _, [], _, _, f, _ => f.elim
  | _ :: _, .ow _ _ :: _, [], _, _, f, _ => f.elim
  | _ :: _, .un :: _, _ :: _, [], _, _, h => h.elim
  | _ :: _, .ow _ _ :: _, _ :: _, [], _, _, h => h.elim
theorem Env.fin [iA : Rp A] {y : A} {v : V} {vs : List V} {ps : List Slot} (E : Env K G0 G H L σ ρ) (f : Fin vs ps ρ) (r : rp K G v y) : Env K G0 G H L (some v :: vs.map some) (fz y :: ps) := by
  obtain ⟨es, h, a⟩ := E.er
  obtain ⟨e1, d, k1, k2⟩ := h.fin f
  have a2 := a.perm (k2.append_right L)
  rw [List.append_assoc] at a2
  exact ⟨E.g0, e1, ⟨[], e1, ⟨rfl, v, rfl, r⟩, k1, rfl⟩, a2.drop1⟩
theorem Env.rebase {G1 : Hp} (E : Env K G0 G H L σ ρ) (g : Gx G1 G0) : Env K G1 G H L σ ρ := ⟨g.trans E.g0, E.er⟩
/-- a new list that stays as it is -/
theorem Env.newF [iA : Rp A] [Im A] {x : List A} {p : Addr} {ws : List V} (E : Env K G0 G H L σ ρ) (hp : H p = none) (g : Gx H H') (h2 : H' p = some (.lst ws)) (r : Al (rp K H') ws x) : exists G2, Gx G G2 ∧ Env K G0 G2 H' L σ ρ ∧ rp K G2 (.ref p) x := by
  obtain ⟨es, h, a⟩ := E.er
  have a1 := a.grow g
  refine ⟨hid H' (es ++ L), a1.gh, ⟨E.g0.trans a1.gh, es, h.mono a1.gh, a1.hid⟩, p, ws, rfl, ?_, r.mono fun _ _ => Im.im a1.tx⟩
  exact (hid_out (a.fresh hp)).trans h2
end
/-! put and take, said by slots -/
def pF (a : FolkS × Dy × Dy) : List Slot := [ow oFolk a.1, fz a.2.1, fz a.2.2]
def qF (_ : FolkS × Dy × Dy) (x : FolkS) : List Slot := [fz (), ow oFolk x, .un, .un]
def xF (a : FolkS × Dy × Dy) (_ : String) : List Slot := [ow oFolk a.1, .un, .un]
theorem psmY_e {K : Fg} {f : FolkS -> Dy -> Dy -> Option (FolkS ⊕ String)} {vs : List V} {H : Hp} {Q : VK} {E : XK} (h : PSe K pF (fun a => f a.1 a.2.1 a.2.2) qF id xF vs H Q E) : PSmY K f vs H Q E := by
  obtain ⟨G, L, ⟨x, g, m⟩, r, E0, hf, q, qx⟩ := h
  obtain ⟨es, hr, a⟩ := E0.er
  have hl : (vs.map some).length = 3 := hr.len
  obtain ⟨v0, v1, v2, rfl⟩ : exists a b c, vs = [a, b, c] := by
    match vs, hl with
    | [a, b, c], _ => exact ⟨a, b, c, rfl⟩
  obtain ⟨e1, r1, ⟨w0, hw0, k0⟩, ⟨f1, r2, ⟨hf1, w1, hw1, k1⟩, ⟨f2, r3, ⟨hf2, w2, hw2, k2⟩, h3, z3⟩, z2⟩, z1⟩ := hr
  subst z3 z2 z1 hf1 hf2
  cases hw0
  cases hw1
  cases hw2
  have e0 : r3 = [] := h3
  subst e0
  simp only [List.append_nil, List.nil_append] at a
  refine ⟨G, L, v0, x, e1, v1, v2, g, m, r, rfl, a, k0, k1, k2, hf, fun x' hx G2 H2 es2 g2 a2 w2 => ?_, fun c hc C G2 H2 iC g2 a2 => ?_⟩
  · exact q x' hx .non G2 H2 ⟨g2, es2, ⟨[], es2, ⟨rfl, _, rfl, rfl⟩, ⟨es2, [], ⟨_, rfl, w2⟩, ⟨[], [], rfl, ⟨[], [], rfl, rfl, rfl⟩, rfl⟩, by simp⟩, by simp⟩, a2⟩
  · exact qx c hc C G2 H2 iC ⟨g2, e1, ⟨e1, [], ⟨_, rfl, fow_mono g2 k0⟩, ⟨[], [], rfl, ⟨[], [], rfl, rfl, rfl⟩, rfl⟩, by simp⟩, a2⟩
end Pu

set_option Elab.async false
set_option linter.all false
set_option maxRecDepth 100000
namespace Pu
open Pu.Rp (rp)
open PySem PySem.Spec PyProof.Rows L2
/-! o.m(..), where what is raised is wished for at the caller's slots -/
def tMethSD (C : Addr) (m : Str) (sp : Sp) (dvs : List V) (E : L2.St -> XK) (ta : TE) (t : TA) : TE := fun σ H Q => ta σ H fun x H1 => ∃ a dx fs, x = .ref a ∧ H1 a = some (.ins C dx fs) ∧ fs.lookup m = none ∧ t σ H1 fun vs H2 => sp (x :: (vs ++ dvs)) H2 Q (E σ)
theorem pe_methSD {X : Cx} {CX : CXT} {k : Nat} {f C : Addr} {fd : FuncData} {ps : List Str} {sp : Sp} {dvs : List V} {ds : List Value} {E : L2.St -> XK} {m : Str} {pos apos : Pos} {e o : Expr} {es : List Expr} {ta : TE} {t : TA} {pl : Sem Bool}
    (he : PE X o ta) (c : Cls X.K C) (hm : Meth X.K C m f) (F : FnOk X.prog X.w X.K X.mg X.base CX k f fd ps sp) (hr : Room k X.A) (hb : Binds X.K fd ps ds) (hd : Vals dvs ds) (hx : ∀ σ, PassesAt CX X σ (E σ)) (ha : PA X (e :: es) t)
    (hst : starEach (e :: es) X.env = (false, eval e X.env) :: starEach es X.env := by rfl) (hpl : (backTo pos (starEach es X.env)).any (·.1) = false := by rfl)
    (ht : eval (.Call (.Attribute o m apos) (e :: es) [] pos) X.env = (do
      let ov ← eval o X.env
      standAt apos.atName
      let (f, first) ← holding [ov] (getMethod ov m pl)
      callWith pos f first (backTo pos (starEach (e :: es) X.env)) (backToKw pos (keywordEach [] X.env))) := by rfl) :
    PE X (.Call (.Attribute o m apos) (e :: es) [] pos) (tMethSD C m sp dvs E ta t) := by
  refine ⟨fun pins s σ H Q I h => ?_⟩
  refine PySem.W.methodCall_KW (pl := pl) (thn (he.run pins s σ H _ I h) fun u s1 ⟨x, H1, I1, rx, a, dx, fs, ex, ea, l, q⟩ => ?_) ht
  subst ex
  obtain rfl : u = Value.ref a := rx
  refine getmeth_ok I1 ea c hm l ?_
  refine PySem.W.callWith_K (first := [.ref a]) (h₀ := X.base) I.ok.mod.kin hm.kp (thn (ha.run pos pins s1 σ H1 _ I1 q) fun us s2 ⟨vs, H2, I2, r, q2⟩ => ⟨I2.kIn, ?_⟩) hst hpl
  exact run_fnSD (us := .ref a :: us) (vs := .ref a :: vs) F hr hb hd (hx σ) I2 (.cons rfl r) q2
section
variable {K : Fg} {A B C I : Type} {σ : L2.St} {G0 G G' H H' : Hp} {L L' : Led} {ρ ρ' : List Slot} {te ta tb tc : TE} {tt tu : TT} {X : Ends} {t1 t2 u : TS} {i j : Nat}
theorem EB.val [iA : Rp A] {x : A} {i : Nat} (B : EB K H σ ρ) (h : sg ρ i = fz x) : exists v, σ[i]? = some (some v) ∧ rp K H v x := by
  rcases B.at_ (i := i) with e | ⟨o, h1, h2⟩
  · rw [h] at e; cases e
  · rw [h] at h2
    obtain ⟨v, rfl, h3⟩ := h2
    exact ⟨v, h1, h3⟩
theorem EB.valO {d : Ow A} {x : A} {i : Nat} (B : EB K H σ ρ) (h : sg ρ i = ow d x) : exists v, σ[i]? = some (some v) ∧ d.rd.rp K H v x := by
  rcases B.at_ (i := i) with e | ⟨o, h1, h2⟩
  · rw [h] at e; cases e
  · rw [h] at h2
    obtain ⟨v, rfl, h3⟩ := h2
    exact ⟨v, h1, h3⟩
theorem sg_ss_ne {i j : Nat} {s : Slot} (h : i ≠ j) : forall {ρ : List Slot}, sg (ss ρ i s) j = sg ρ j := by
  intro ρ
  induction ρ generalizing i j with
  | nil => cases i <;> rfl
  | cons t ρ ih =>
    cases i with
    | zero => cases j with
      | zero => exact absurd rfl h
      | succ j => rfl
    | succ i => cases j with
      | zero => rfl
      | succ j => exact ih (fun z => h (by rw [z]))
theorem ss_len {i : Nat} {s : Slot} : forall {ρ : List Slot}, (ss ρ i s).length = ρ.length := by
  intro ρ
  induction ρ generalizing i with
  | nil => cases i <;> rfl
  | cons t ρ ih =>
    cases i with
    | zero => rfl
    | succ i => show (ss ρ i s).length + 1 = _; rw [ih]; rfl
/-- a list of one's own with one item more -/
theorem Env.app1 [iA : Rp A] {q : Addr} {vs : List V} {v : V} (E : Env K G0 G H ([(q, HO.lst vs)] ++ L) σ ρ) : Env K G0 G (upd H q (.lst (vs ++ [v]))) ([(q, HO.lst (vs ++ [v]))] ++ L) σ ρ := by
  obtain ⟨es, r, a⟩ := E.er
  exact ⟨E.g0, es, r, At.set (L1 := es) a trivial⟩
theorem Env.ledH {q : Addr} {o : HO} (E : Env K G0 G H ([(q, o)] ++ L) σ ρ) : H q = some o := by
  obtain ⟨es, r, a⟩ := E.er
  exact (a.led (q, o) (by simp)).1
/-- found.append(folk.put(a, b)) -/
theorem se_appM {f : FolkS × Dy × Dy -> Option (FolkS ⊕ String)} {m : Str} {Cc : Addr} {Es : L2.St -> XK} {x : FolkS} {t o : Dy} {vf : V} {r : FolkS ⊕ String} {i0 i2 i3 i5 : Nat} (hn : NoM FolkS "Folk" m) (iC : isC K "Folk" Cc) (E : Env K G0 G H L σ ρ)
    (hs0 : sg ρ i0 = ow (oPin vf oFolk) x) (hs5 : sg ρ i5 = ow (oL Dy) ([] : List Dy)) (h2 : sg ρ i2 = fz t) (h3 : sg ρ i3 = fz o) (n05 : i5 ≠ i0) (n25 : i5 ≠ i2) (n35 : i5 ≠ i3) (n02 : i0 ≠ i2) (n03 : i0 ≠ i3) (hf : f (x, t, o) = some r)
    (k1 : forall x', r = .inl x' -> forall G2 H2, Env K G0 G2 H2 L σ (ss (ss (ss (ss ρ i5 .un) i0 .un) i0 (ow (oPin vf oFolk) x')) i5 (ow (oL Dy) [Dy.non])) -> u X σ H2)
    (k2 : forall c, r = .inr c -> forall C G2 H2, isC K c C -> Env K G0 G2 H2 L σ (ss (ss (ss (ss ρ i5 .un) i0 .un) i0 (ow (oPin vf oFolk) x)) i5 (ow (oL Dy) [])) -> Es σ (.ref C) none H2) :
    tSeq (tDrop (tBM K "list" rAppend (tVar i5) (tCons (tMethSD Cc m (PSe K pF f qF id xF) [] Es (tVar i0) (tCons (tVar i2) (tCons (tVar i3) tNil))) tNil))) u X σ H := by
  show tVar i5 σ H (fun x H1 => tyV K "list" x H1 ∧ (tCons _ tNil) σ H1 fun xs H2 => rAppend x xs H2 fun _ H3 => u X σ H3)
  refine E.take (te := tVar i5) hs5 pl_v fun vb eb rr H2 e2 E2 hb back => ?_
  obtain ⟨q, vs, rfl, rfl, al⟩ := hb
  have hq := E2.ledH
  refine ⟨.inl ⟨rfl, _, SqL.of hq⟩, ?_⟩
  have l5 : i5 < ρ.length := Env.lt (i := i5) (by rw [hs5]; exact fun z => nomatch z)
  have l0 : i0 < ρ.length := Env.lt (i := i0) (by rw [hs0]; exact fun z => nomatch z)
  show tVar i0 σ H2 (fun x H1 => ∃ a dx fs, x = .ref a ∧ H1 a = some (.ins Cc dx fs) ∧ fs.lookup m = none ∧ (tCons (tVar i2) (tCons (tVar i3) tNil)) σ H1 fun vs' H2 => PSe K pF f qF id xF (x :: (vs' ++ [])) H2 (fun y H4 => tNil σ H4 fun ys H5 => rAppend (.ref q) (y :: ys) H5 fun _ H3 => u X σ H3) (Es σ))
  refine E2.take (te := tVar i0) (i := i0) (dA := oPin vf oFolk) (x := x) (by rw [sg_ss_ne n05]; exact hs0) pl_pin fun vb2 eb2 rr2 H3 e3 E3 hb2 back2 => ?_
  have hrd : rp K H3 vb2 x := fow_see E3.gH (fun e he => by
    obtain ⟨es, r, a⟩ := E3.er
    exact (a.led e (by simp [he])).1) hb2
  obtain ⟨a, C', dx, fs, rfl, i2', h4, h5⟩ := hn hrd
  cases isC.uniq i2' iC
  obtain ⟨v2, hv2, rv2⟩ := E3.fzat (i := i2) (by rw [sg_ss_ne n02, sg_ss_ne n25]; exact h2)
  obtain ⟨v3, hv3, rv3⟩ := E3.fzat (i := i3) (by rw [sg_ss_ne n03, sg_ss_ne n35]; exact h3)
  refine ⟨a, dx, fs, rfl, h4, h5, v2, hv2, v3, hv3, ?_⟩
  refine E3.callE (a := (x, t, o)) (vs := [.ref a, v2, v3]) (eb := eb2) ⟨eb2, [], ⟨_, rfl, hb2⟩, ⟨[], [], ⟨rfl, v2, rfl, rv2⟩, ⟨[], [], ⟨rfl, v3, rfl, rv3⟩, rfl, rfl⟩, rfl⟩, by simp⟩ hf (fun x' hx v G2 H4 es2 g r2 E4 => ?_) (fun c hc C G2 H4 es2 iCc g r2 E4 => ?_)
  · obtain ⟨f1, s1, ⟨z1, w1, hw1, k1'⟩, ⟨f2, s2, ⟨w2, hw2, k2'⟩, ⟨f3, s3, z3, ⟨f4, s4, z4, z5, y4⟩, y3⟩, y2⟩, y1⟩ := r2
    cases hw1
    cases hw2
    cases (show v = V.non from k1')
    have e5 : s4 = [] := z5
    have e3' : f3 = [] := z3
    have e4' : f4 = [] := z4
    subst y4 y3 y2 y1 z1 e5 e3' e4'
    have E4' : Env K G0 G2 H4 (f2 ++ (rr2 ++ ([(q, HO.lst vs)] ++ (rr ++ L)))) σ (ss (ss ρ i5 .un) i0 .un) := by simpa only [List.append_nil, List.nil_append] using E4
    have E5 := back2 G0 G2 x' f2 H4 _ g (by rw [ss_len, ss_len]; exact l0) k2' E4'
    have hq4 := E5.ledH
    refine ⟨q, vs, .non, rfl, rfl, hq4, Evl.sz_lt (by rw [al.len]; decide), ?_⟩
    have E6 := Env.app1 (A := Dy) (v := V.non) E5
    exact k1 x' hx G2 _ (back G0 G2 [Dy.non] _ _ _ g (by rw [ss_len, ss_len, ss_len]; exact l5) ⟨q, vs ++ [.non], rfl, rfl, (al.mono fun _ _ => Rp.mono g).app (Al.one (by show rpY K G2 .non .non; rw [rpY]))⟩ E6)
  · obtain ⟨f2, s2, ⟨w2, hw2, k2'⟩, ⟨f3, s3, z3, ⟨f4, s4, z4, z5, y4⟩, y3⟩, y2⟩ := r2
    cases hw2
    have e5 : s4 = [] := z5
    have e3' : f3 = [] := z3
    have e4' : f4 = [] := z4
    subst y4 y3 y2 e5 e3' e4'
    have E4' : Env K G0 G2 H4 (f2 ++ (rr2 ++ ([(q, HO.lst vs)] ++ (rr ++ L)))) σ (ss (ss ρ i5 .un) i0 .un) := by simpa only [List.append_nil, List.nil_append] using E4
    have E5 := back2 G0 G2 x f2 H4 _ g (by rw [ss_len, ss_len]; exact l0) k2' E4'
    exact k2 c hc C G2 _ iCc (back G0 G2 [] _ _ _ g (by rw [ss_len, ss_len, ss_len]; exact l5) ⟨q, vs, rfl, rfl, al.mono fun _ _ => Rp.mono g⟩ E5)
/-- found.append(folk.in_it(a)) -/
theorem se_appN {f : FolkS -> Dy -> Option (List Str ⊕ String)} {m : Str} {Cc : Addr} {Es : L2.St -> XK} {x : FolkS} {t : Dy} {vf : V} {r : List Str ⊕ String} {i0 i2 i5 : Nat} (hn : NoM FolkS "Folk" m) (iC : isC K "Folk" Cc) (E : Env K G0 G H L σ ρ)
    (hs0 : sg ρ i0 = ow (oPin vf oFolk) x) (hs5 : sg ρ i5 = ow (oL Dy) ([] : List Dy)) (h2 : sg ρ i2 = fz t) (n05 : i5 ≠ i0) (n25 : i5 ≠ i2) (hf : f x t = some r)
    (k1 : forall xs, r = .inl xs -> forall G2 H2, Env K G0 G2 H2 L σ (ss (ss ρ i5 .un) i5 (ow (oL Dy) [Dy.lst (xs.map Dy.str)])) -> u X σ H2)
    (k2 : forall c, r = .inr c -> forall C G2 H2, isC K c C -> Env K G0 G2 H2 L σ (ss (ss ρ i5 .un) i5 (ow (oL Dy) [])) -> Es σ (.ref C) none H2) :
    tSeq (tDrop (tBM K "list" rAppend (tVar i5) (tCons (tMethSD Cc m (PSy K (A2 K f)) [] Es (tVar i0) (tCons (tVar i2) tNil)) tNil))) u X σ H := by
  show tVar i5 σ H (fun x H1 => tyV K "list" x H1 ∧ (tCons _ tNil) σ H1 fun xs H2 => rAppend x xs H2 fun _ H3 => u X σ H3)
  refine E.take (te := tVar i5) hs5 pl_v fun vb eb rr H2 e2 E2 hb back => ?_
  obtain ⟨q, vs, rfl, rfl, al⟩ := hb
  have hq := E2.ledH
  refine ⟨.inl ⟨rfl, _, SqL.of hq⟩, ?_⟩
  have l5 : i5 < ρ.length := Env.lt (i := i5) (by rw [hs5]; exact fun z => nomatch z)
  obtain ⟨v0, hv0, rv0⟩ := E2.eb.valO (i := i0) (d := oPin vf oFolk) (x := x) (by rw [sg_ss_ne n05]; exact hs0)
  have rv0' : rp K H2 v0 x := rv0
  obtain ⟨a, C', dx, fs, rfl, i2', h4, h5⟩ := hn rv0'
  cases isC.uniq i2' iC
  obtain ⟨v2, hv2, rv2⟩ := E2.eb.val (i := i2) (x := t) (by rw [sg_ss_ne n25]; exact h2)
  refine ⟨_, hv0, a, dx, fs, rfl, h4, h5, v2, hv2, r, ⟨_, v2, x, t, rfl, rv0', rv2, hf⟩, fun xs hx p ws H4 hp g h4 al2 => ?_, fun c hc C H4 iCc g => ?_⟩
  · obtain ⟨G2, g2, E3, r3⟩ := E2.newF (x := xs) hp g h4 al2
    have hq4 := E3.ledH
    refine ⟨q, vs, .ref p, rfl, rfl, hq4, Evl.sz_lt (by rw [al.len]; decide), ?_⟩
    have E6 := Env.app1 (A := Dy) (v := V.ref p) E3
    have r4 : rp K G2 (V.ref p) (Dy.lst (xs.map Dy.str)) := ToY.ok (A := List Str) r3
    exact k1 xs hx G2 _ (back G0 G2 [Dy.lst (xs.map Dy.str)] _ _ _ g2 (by rw [ss_len]; exact l5) ⟨q, vs ++ [.ref p], rfl, rfl, (al.mono fun _ _ => Rp.mono g2).app (Al.one r4)⟩ E6)
  · exact k2 c hc C G _ iCc (back G0 G [] _ _ _ Gx.rfl (by rw [ss_len]; exact l5) ⟨q, vs, rfl, rfl, al⟩ (E2.grow g))
end
end Pu

set_option Elab.async false
set_option linter.all false
set_option maxRecDepth 100000
namespace Pu
open Pu.Rp (rp)
open PySem PySem.Spec PyProof.Rows L2
section
variable {K : Fg} {A B C I : Type} {σ : L2.St} {G0 G G' H H' : Hp} {L L' : Led} {ρ ρ' : List Slot} {te ta tb tc : TE} {tt tu : TT} {X : Ends} {t1 t2 u : TS} {i j : Nat}
theorem ss_same {i : Nat} : forall {ρ : List Slot}, ss ρ i (sg ρ i) = ρ := by
  intro ρ
  induction ρ generalizing i with
  | nil => cases i <;> rfl
  | cons t ρ ih =>
    cases i with
    | zero => rfl
    | succ i => show t :: ss ρ i (sg ρ i) = _; rw [ih]
theorem Env.setN {o : Option V} (E : Env K G0 G H L σ ρ) (hs : sg ρ i = .un) : Env K G0 G H L (σ.set i o) ρ := by
  obtain ⟨es, r, a⟩ := E.er
  by_cases hi : i < ρ.length
  · obtain ⟨o', f1, rr, k1, k2, k3, k4⟩ := r.foc hi
    rw [hs] at k2
    have e : f1 = [] := k2
    subst e
    obtain ⟨es', q1, q2⟩ := k4 (s' := .un) (o' := o) (e' := []) Gx.rfl rfl
    rw [← hs, ss_same] at q1
    exact ⟨E.g0, es', q1, a.perm ((k3.trans q2.symm).append_right L)⟩
  · rw [List.set_eq_of_length_le (by rw [r.len]; omega)]
    exact E
theorem Env.both {a : Addr} {o : HO} (E : Env K G0 G H L σ ρ) (ha : H a = none) : Env K G0 (upd G a o) (upd H a o) L σ ρ := by
  obtain ⟨es, r, at_⟩ := E.er
  have g := Gx.new (o := o) (at_.gn ha)
  exact ⟨E.g0.trans g, es, r.mono g, at_.both ha⟩
theorem EB.getDM [iA : Rp A] {x : Dm A} {i : Nat} (B : EB K H σ ρ) (h : sg ρ i = fz x) : EvB K (tVar i) σ H (some (⟨x.l⟩ : Ds A)) := by
  obtain ⟨v, h1, h2⟩ := B.val h
  exact eb_v h1 (dm_ds h2)
theorem Env.open1 {d : Ow A} {x : A} (E : Env K G0 G H L σ ρ) (hs : sg ρ i = ow d x) : exists v eb, σ[i]? = some (some v) ∧ d.ow K G v x eb ∧ Env K G0 G H (eb ++ L) σ (ss ρ i .un) := by
  obtain ⟨es, r, a⟩ := E.er
  obtain ⟨o, f1, rr, k1, k2, k3, k4⟩ := r.foc (Env.lt (i := i) (by rw [hs]; exact fun z => nomatch z))
  rw [hs] at k2
  obtain ⟨v, rfl, h⟩ := k2
  obtain ⟨es', q1, q2⟩ := k4 (G' := G) (s' := .un) (o' := some v) (e' := []) Gx.rfl rfl
  rw [set_same k1] at q1
  refine ⟨v, f1, k1, h, E.g0, es', q1, a.perm ?_⟩
  have z1 : (es ++ L).Perm ((f1 ++ rr) ++ L) := k3.append_right L
  have z2 : (es' ++ (f1 ++ L)).Perm (rr ++ (f1 ++ L)) := by simpa using q2.append_right (f1 ++ L)
  refine z1.trans (List.Perm.trans ?_ z2.symm)
  rw [List.append_assoc]
  exact Pu.p1
theorem Env.close1 {d : Ow A} {x : A} {v : V} {eb : Led} (E : Env K G0 G H (eb ++ L) σ ρ) (hi : i < ρ.length) (hv : σ[i]? = some (some v)) (h : d.ow K G v x eb) : Env K G0 G H L σ (ss ρ i (ow d x)) := by
  have E2 := E.setO hi h
  rw [set_same hv] at E2
  exact E2
/-! arguments that stay as they are -/
def EvFs (K : Fg) (t : TA) (σ : L2.St) (G H : Hp) (sl : List Slot) : Prop := forall G1 H1 L, Gx G G1 -> Gx H H1 -> At G1 H1 L -> forall Q : List V -> Hp -> Prop, (forall vs G2 H2, Gx G1 G2 -> Gx H1 H2 -> At G2 H2 L -> ER K G2 (vs.map some) sl [] -> Q vs H2) -> t σ H1 Q
theorem ef_nil : EvFs K tNil σ G H [] := fun G1 H1 L g e a Q q => q [] G1 H1 Gx.rfl Gx.rfl a rfl
theorem ef_cons [iA : Rp A] {m : Option A} {y : A} {t : TA} {sl : List Slot} (h : EvO K te σ G H m) (hm : m = some y) (r : EvFs K t σ G H sl) : EvFs K (tCons te t) σ G H (fz y :: sl) := fun G1 H1 L g e a Q q =>
  h y hm G1 H1 L g e a _ fun v G2 H2 g2 e2 a2 rv => r G2 H2 L (g.trans g2) (e.trans e2) a2 _ fun vs G3 H3 g3 e3 a3 rs => q (v :: vs) G3 H3 (g2.trans g3) (e2.trans e3) a3 ⟨[], [], ⟨rfl, v, rfl, Rp.mono g3 rv⟩, rs, rfl⟩
theorem Env.runs {t : TA} {sl : List Slot} (E : Env K G0 G H L σ ρ) (h : EvFs K t σ G H sl) {Q : List V -> Hp -> Prop} (k : forall vs G2 H2, Gx G G2 -> Gx H H2 -> Env K G0 G2 H2 L σ ρ -> ER K G2 (vs.map some) sl [] -> Q vs H2) : t σ H Q := by
  obtain ⟨es, r, a⟩ := E.er
  exact h G H _ Gx.rfl Gx.rfl a _ fun vs G2 H2 g e a2 rs => k vs G2 H2 g e ⟨E.g0.trans g, es, r.mono g, a2⟩ rs
theorem er_uns : forall {vs : List V} {n : Nat} {es : Led}, ER K G (vs.map some) (List.replicate n .un) es -> es = []
  | [], 0, _, h => h
  | v :: vs, n + 1, _, ⟨e1, e2, h1, h2, h3⟩ => by
    have z : e1 = [] := h1
    rw [h3, z, er_uns (vs := vs) (n := n) h2]; rfl
  | [], _ + 1, _, h => h.elim
  | _ :: _, 0, _, h => h.elim
/-- x = f(o, ..), o one's own -/
theorem se_callP {D R α : Type} [Rp R] {dF : Ow D} {pre : α -> List Slot} {F : α -> Option ((R × D) ⊕ Empty)} {post : α -> R × D -> List Slot} {cls : Empty -> String} {pE : α -> Empty -> List Slot} {a : α} {x : D} {b : R × D} {vf : V} {Ex : XK} {io n : Nat} {t : TA} {sl : List Slot}
    (hp : pre a = ow dF x :: sl) (hq : forall b, post a b = fz b.1 :: ow dF b.2 :: List.replicate n .un) (hs : sg ρ io = ow (oPin vf dF) x) (E : Env K G0 G H L σ ρ) (h : EvFs K t σ G H sl) (hF : F a = some (.inl b))
    (k : forall σ2 G2 H2, Env K G0 G2 H2 L σ2 (ss (ss (ss ρ io .un) io (ow (oPin vf dF) b.2)) i (fz b.1)) -> u X σ2 H2) :
    tSeq (tAsg (tCall (PSe K pre F post cls pE) [] Ex (tCons (tVar io) t)) (gName i)) u X σ H := by
  have l0 : io < ρ.length := Env.lt (i := io) (by rw [hs]; exact fun z => nomatch z)
  obtain ⟨v0, hv0, _⟩ := E.eb.valO hs
  refine ⟨v0, hv0, ?_⟩
  refine E.runs h fun ws Gc Hc gc hc Ec rs => ?_
  obtain ⟨v, eb, hv, ⟨hvf, ho⟩, E'⟩ := Ec.open1 hs
  rw [hv0] at hv
  cases hv
  refine E'.callE (a := a) (vs := v0 :: (ws ++ [])) (eb := eb) ?_ hF (fun b' hb' w G5 H5 es2 g r E5 => ?_) (fun c => c.elim)
  · rw [hp, List.append_nil]
    exact ⟨eb, [], ⟨_, rfl, ho⟩, rs, by simp⟩
  · cases hb'
    rw [hq, List.append_nil] at r
    obtain ⟨f1, s1, ⟨z1, u1, hw1, k1'⟩, ⟨f2, s2, ⟨u2, hw2, k2'⟩, r3, y2⟩, y1⟩ := r
    cases hw1
    cases hw2
    have e2 := er_uns r3
    subst y2 y1 z1 e2
    have E6 : Env K G0 G5 H5 (f2 ++ L) σ (ss ρ io .un) := by simpa only [List.append_nil, List.nil_append] using E5
    exact k _ G5 H5 ((E6.close1 (d := oPin vf dF) (x := b.2) (by rw [ss_len]; exact l0) hv0 ⟨hvf, k2'⟩).setF k1')
/-- x = f(..), what it tells stays as it is -/
theorem se_callF {R α : Type} [Rp R] {pre : α -> List Slot} {F : α -> Option (R ⊕ Empty)} {post : α -> R -> List Slot} {cls : Empty -> String} {pE : α -> Empty -> List Slot} {a : α} {b : R} {Ex : XK} {n : Nat} {t : TA} {sl : List Slot}
    (hp : pre a = sl) (hq : forall b, post a b = fz b :: List.replicate n .un) (E : Env K G0 G H L σ ρ) (h : EvFs K t σ G H sl) (hF : F a = some (.inl b))
    (k : forall σ2 G2 H2, Env K G0 G2 H2 L σ2 (ss ρ i (fz b)) -> u X σ2 H2) :
    tSeq (tAsg (tCall (PSe K pre F post cls pE) [] Ex t) (gName i)) u X σ H := by
  refine E.runs h fun ws Gc Hc gc hc Ec rs => ?_
  refine Env.callE (eb := []) (L1 := L) (a := a) (vs := ws ++ []) Ec (by rw [hp, List.append_nil]; exact rs) hF (fun b' hb' w G5 H5 es2 g r E5 => ?_) (fun c => c.elim)
  cases hb'
  rw [hq, List.append_nil] at r
  obtain ⟨f1, s1, ⟨z1, u1, hw1, k1'⟩, r3, y1⟩ := r
  cases hw1
  have e2 := er_uns r3
  subst y1 z1 e2
  exact k _ G5 H5 (Env.setF (L := L) E5 k1')
/-- return f(..) -/
theorem sr_callF {R α : Type} [Rp R] {pre : α -> List Slot} {F : α -> Option (R ⊕ Empty)} {post : α -> R -> List Slot} {cls : Empty -> String} {pE : α -> Empty -> List Slot} {a : α} {b : R} {Ex : XK} {n : Nat} {t : TA} {sl : List Slot}
    (hp : pre a = sl) (hq : forall b, post a b = fz b :: List.replicate n .un) (E : Env K G0 G H L σ ρ) (h : EvFs K t σ G H sl) (hF : F a = some (.inl b))
    (k : forall v G2 H2, Env K G0 G2 H2 L σ ρ -> rp K G2 v b -> X.rt v H2) : tSeq (tRet (tCall (PSe K pre F post cls pE) [] Ex t)) u X σ H := by
  refine E.runs h fun ws Gc Hc gc hc Ec rs => ?_
  refine Env.callE (eb := []) (L1 := L) (a := a) (vs := ws ++ []) Ec (by rw [hp, List.append_nil]; exact rs) hF (fun b' hb' w G5 H5 es2 g r E5 => ?_) (fun c => c.elim)
  cases hb'
  rw [hq, List.append_nil] at r
  obtain ⟨f1, s1, ⟨z1, u1, hw1, k1'⟩, r3, y1⟩ := r
  cases hw1
  have e2 := er_uns r3
  subst y1 z1 e2
  exact k _ G5 H5 E5 k1'
/-! parts of what stays -/
theorem eo_ixL [iA : Rp A] {ma : Option (List A)} {mj : Option Int} (ha : EvO K ta σ G H ma) (hb : EvB K tb σ H mj) : EvO K (tOp (rIxL K) ta tb) σ G H (o2 ix ma mj) := fun x hx G1 H1 L g e a Q q => by
  obtain ⟨d, k, e1, e2, e3⟩ := o2s hx
  refine ha d e1 G1 H1 L g e a _ fun v G2 H2 g2 h2' a2 r2 => hb k e2 H2 (e.trans h2') _ fun w H3 g3 r3 => ?_
  cases (show w = V.int k from r3)
  obtain ⟨p, vs, rfl, h2, h3⟩ := r2
  obtain ⟨u, h4, h5⟩ := al_at h3 e3
  exact ⟨p, vs, k, u, rfl, rfl, SqL.of (g3 _ _ (a2.ex _ _ h2)), h4, q u G2 H3 g2 (h2'.trans g3) (a2.grow g3) h5⟩
theorem eo_if [iA : Rp A] {mc : Option Bool} {ma mb : Option A} (hc : EvT tt σ H mc) (ha : EvO K ta σ G H ma) (hb : EvO K tb σ G H mb) : EvO K (tIf tt ta tb) σ G H (oIf mc ma mb) := fun x hx G1 H1 L g e a Q q => by
  cases mc with
  | none => cases hx
  | some c =>
    refine hc c rfl H1 e _ fun H2 g2 => ?_
    cases c with
    | true => exact ite_tt (ha x hx G1 H2 L g (e.trans g2) (a.grow g2) Q fun v G3 H3 h3 k3 a3 r3 => q v G3 H3 h3 (g2.trans k3) a3 r3)
    | false => exact ite_ff (hb x hx G1 H2 L g (e.trans g2) (a.grow g2) Q fun v G3 H3 h3 k3 a3 r3 => q v G3 H3 h3 (g2.trans k3) a3 r3)
end
end Pu

set_option Elab.async false
set_option linter.all false
set_option maxRecDepth 100000
namespace Pu
open Pu.Rp (rp)
open PySem PySem.Spec PyProof.Rows L2
theorem EB.setU {K : Fg} {H : Hp} {σ : L2.St} {ρ : List Slot} {o : Option V} {i : Nat} (E : EB K H σ ρ) : EB K H (σ.set i o) (ss ρ i .un) := E.set trivial
theorem EB.wipe {K : Fg} {H : Hp} : forall {js : List (Str × Nat)} {σ : L2.St} {ρ : List Slot}, EB K H σ ρ -> EB K H (L2.wipe σ (js.map (·.2))) (js.foldr (fun j r => ss r j.2 .un) ρ)
  | [], _, _, E => E
  | j :: js, _, _, E => (EB.wipe (js := js) E).setU (i := j.2)
end Pu

set_option Elab.async false
set_option linter.all false
set_option maxRecDepth 100000
namespace Pu
open Pu.Rp (rp)
open PySem PySem.Spec PyProof.Rows L2
/-! a list that stays as it is, of things that are one's own -/
def OwL {A : Type} (K : Fg) (G : Hp) (d : Ow A) : List V -> List A -> Led -> Prop
  | [], [], es => es = []
  | v :: vs, x :: xs, es => exists e1 e2, d.ow K G v x e1 ∧ OwL K G d vs xs e2 ∧ es = e1 ++ e2
  | _, _, _ => False
section
variable {K : Fg} {A B C I : Type} {σ : L2.St} {G0 G G' H H' : Hp} {L L' : Led} {ρ ρ' : List Slot} {te ta tb tc : TE} {tt tu : TT} {X : Ends} {t1 t2 u : TS} {i j : Nat}
theorem OwL.mono {d : Ow A} (g : Gx G G') : forall {vs : List V} {xs : List A} {es : Led}, OwL K G d vs xs es -> OwL K G' d vs xs es
  | [], [], _, h => h
  | v :: vs, x :: xs, _, ⟨e1, e2, h1, h2, h3⟩ => ⟨e1, e2, d.mono g h1, OwL.mono g h2, h3⟩
  | [], _ :: _, _, h => h.elim
  | _ :: _, [], _, h => h.elim
theorem OwL.see {d : Ow A} (g : Gx G H) : forall {vs : List V} {xs : List A} {es : Led}, (forall e, e ∈ es -> H e.1 = some e.2) -> OwL K G d vs xs es -> Al (d.rd.rp K H) vs xs
  | [], [], _, _, _ => trivial
  | v :: vs, x :: xs, _, hl, ⟨e1, e2, h1, h2, h3⟩ => ⟨d.see g (fun e he => hl e (by rw [h3]; exact List.mem_append_left _ he)) h1, OwL.see g (fun e he => hl e (by rw [h3]; exact List.mem_append_right _ he)) h2⟩
  | [], _ :: _, _, _, h => h.elim
  | _ :: _, [], _, _, h => h.elim
theorem OwL.pick {d : Ow A} : forall {j : Nat} {vs : List V} {xs : List A} {es : Led} {x : A}, OwL K G d vs xs es -> xs[j]? = some x -> exists vb eb r, vs[j]? = some vb ∧ d.ow K G vb x eb ∧ es.Perm (eb ++ r) ∧
    forall G' x' eb', Gx G G' -> d.ow K G' vb x' eb' -> exists es', OwL K G' d vs (xs.set j x') es' ∧ es'.Perm (eb' ++ r)
  | _, [], [], _, _, _, h => by simp at h
  | 0, v :: vs, x :: xs, _, y, ⟨e1, e2, h1, h2, h3⟩, h => by
    have e : x = y := by simpa using h
    subst e h3
    exact ⟨v, e1, e2, rfl, h1, List.Perm.refl _, fun G' x' eb' g h => ⟨eb' ++ e2, ⟨eb', e2, h, h2.mono g, rfl⟩, List.Perm.refl _⟩⟩
  | j + 1, v :: vs, x :: xs, _, y, ⟨e1, e2, h1, h2, h3⟩, h => by
    obtain ⟨vb, eb, r, k1, k2, k3, k4⟩ := OwL.pick (j := j) h2 (by simpa using h)
    subst h3
    refine ⟨vb, eb, e1 ++ r, by simpa using k1, k2, (k3.append_left e1).trans Pu.p1, fun G' x' eb' g hx => ?_⟩
    obtain ⟨es', m1, m2⟩ := k4 G' x' eb' g hx
    exact ⟨e1 ++ es', ⟨e1, es', d.mono g h1, m1, rfl⟩, (m2.append_left e1).trans Pu.p1⟩
  | _, [], _ :: _, _, _, h, _ => h.elim
  | _, _ :: _, [], _, _, h, _ => h.elim
def oLs {A : Type} (d : Ow A) : Ow (List A) where
  rd := @instRpList A d.rd
  ow K G v xs es := exists p vs, v = .ref p ∧ G p = some (.lst vs) ∧ OwL K G d vs xs es
  mono g := fun ⟨p, vs, h1, h2, h3⟩ => ⟨p, vs, h1, g _ _ h2, h3.mono g⟩
  see g hl := fun ⟨p, vs, h1, h2, h3⟩ => ⟨p, vs, h1, g _ _ h2, h3.see g hl⟩
/-- an item of it -/
theorem pl_ix {d : Ow A} {xs : List A} {x : A} {mi : Option Int} {n : Int} {j : Nat} (hI : EvB K tb σ H mi) (hn : mi = some n) (hj : ixN xs.length n = some j) (hx : xs[j]? = some x) :
    Plc K (tOp (rIxL K) (tVar i) tb) σ H i (oLs d) d xs x (fun x' => xs.set j x') := fun G H v es L e hs ho a Q q => by
  obtain ⟨p, vs, rfl, h2, h3⟩ := ho
  refine ⟨_, hs, hI n hn H e _ fun w H2 g r => ?_⟩
  cases (show w = V.int n from r)
  obtain ⟨vb, eb, r, k1, k2, k3, k4⟩ := h3.pick hx
  refine ⟨p, vs, n, vb, rfl, rfl, SqL.of (g _ _ (a.ex _ _ h2)), ?_, q vb eb r H2 g (a.grow g) k3 k2 fun G' x' eb' g' h' => ?_⟩
  · have hl : vs.length = xs.length := by
      have : forall {vs : List V} {xs : List A} {es : Led}, OwL K G d vs xs es -> vs.length = xs.length := by
        intro vs
        induction vs with
        | nil => intro xs es h; cases xs with
          | nil => rfl
          | cons x xs => exact h.elim
        | cons v vs ih => intro xs es h; cases xs with
          | nil => exact h.elim
          | cons x xs =>
            obtain ⟨e1, e2, h1, h2, h3⟩ := h
            exact congrArg (· + 1) (ih h2)
      exact this h3
    unfold atI
    rw [hl, hj]
    exact k1
  · obtain ⟨es', m1, m2⟩ := k4 G' x' eb' g' h'
    exact ⟨es', ⟨p, vs, rfl, g' _ _ h2, m1⟩, m2⟩
theorem Plc.mono {dA : Ow A} {dB : Ow B} {x : A} {b : B} {set : B -> A} (p : Plc K te σ H i dA dB x b set) (g : Gx H H') : Plc K te σ H' i dA dB x b set := fun G H1 v es L e => p G H1 v es L (g.trans e)
/-- a place taken out of its slot -/
theorem Env.takeL {dA : Ow A} {dB : Ow B} {x : A} {b : B} {set : B -> A} (E : Env K G0 G H L σ ρ) (hs : sg ρ i = ow dA x) (p : Plc K te σ H i dA dB x b set) {Q : VK}
    (k : forall vb eb rr H2, Gx H H2 -> Env K G0 G H2 (eb ++ (rr ++ L)) σ (ss ρ i .un) -> dB.ow K G vb b eb -> (forall G0' G' b' eb' H' ρ' L2, Gx G G' -> i < ρ'.length -> dB.ow K G' vb b' eb' -> Env K G0' G' H' (eb' ++ (rr ++ L2)) σ ρ' -> Env K G0' G' H' L2 σ (ss ρ' i (ow dA (set b')))) -> Q vb H2) : te σ H Q := by
  obtain ⟨es, r, a⟩ := E.er
  have hi : i < ρ.length := Env.lt (i := i) (by rw [hs]; exact fun z => nomatch z)
  obtain ⟨o, f1, r1, k1, k2, k3, k4⟩ := r.foc hi
  rw [hs] at k2
  obtain ⟨v, rfl, hv⟩ := k2
  have a2 := a.perm (k3.append_right L)
  rw [List.append_assoc] at a2
  have es_ : σ.set i (some v) = σ := List.ext_getElem? fun n => by
    by_cases e : i = n
    · subst e
      rw [List.getElem?_set_self (List.getElem?_eq_some_iff.mp k1).1, k1]
    · rw [List.getElem?_set_ne e]
  refine p G H v f1 (r1 ++ L) Gx.rfl k1 hv a2 _ fun vb eb r2 H2 g a3 pm hb back => ?_
  obtain ⟨es', q1, q2⟩ := k4 (G' := G) (s' := .un) (o' := some v) (e' := []) Gx.rfl rfl
  rw [es_] at q1
  refine k vb eb r2 H2 g ⟨E.g0, es', q1, a3.perm ?_⟩ hb fun G0' G' b' eb' H' ρ' L2 g' hi' hb' E' => ?_
  · have z1 : (f1 ++ (r1 ++ L)).Perm ((eb ++ r2) ++ (r1 ++ L)) := pm.append_right _
    have z2 : (es' ++ (eb ++ (r2 ++ L))).Perm (r1 ++ (eb ++ (r2 ++ L))) := by
      have := q2.append_right (eb ++ (r2 ++ L))
      simpa using this
    refine z1.trans (List.Perm.trans ?_ z2.symm)
    rw [List.append_assoc]
    exact Pu.p2
  · obtain ⟨es2, w1, w2⟩ := back G' b' eb' g' hb'
    obtain ⟨es3, r3, a4⟩ := E'.er
    obtain ⟨o2, f2, rr2, m1, m2, m3, m4⟩ := r3.foc hi'
    obtain ⟨es4, n1, n2⟩ := m4 (G' := G') (s' := ow dA (set b')) (o' := some v) (e' := es2) Gx.rfl ⟨v, rfl, w1⟩
    rw [es_] at n1
    refine ⟨E'.g0, es4, n1, ?_⟩
    have a5 := a4.perm (m3.append_right (eb' ++ (r2 ++ L2)))
    rw [List.append_assoc] at a5
    have a6 := a5.drop1
    refine a6.perm ?_
    have z1 : (es4 ++ L2).Perm ((es2 ++ rr2) ++ L2) := n2.append_right L2
    have z2 : ((es2 ++ rr2) ++ L2).Perm (((eb' ++ r2) ++ rr2) ++ L2) := (w2.append_right rr2).append_right L2
    refine List.Perm.trans ?_ (z1.trans z2).symm
    rw [List.append_assoc, List.append_assoc]
    exact Pu.p2.symm
/-- f(.. own .., ..), what is one's own within another thing -/
theorem Env.call1 {D DA R α : Type} [Rp R] {dA : Ow DA} {d : Ow D} {pre : α -> List Slot} {F : α -> Option ((R × D) ⊕ Empty)} {post : α -> R × D -> List Slot} {cls : Empty -> String} {pE : α -> Empty -> List Slot} {a : α} {Y : DA} {x : D} {set : D -> DA} {b : R × D} {Ex : XK} {io n : Nat} {t1 : TE} {t : TA} {sl : List Slot} {Q : VK}
    (hp : pre a = ow d x :: sl) (hq : forall b, post a b = fz b.1 :: ow d b.2 :: List.replicate n .un) (hs : sg ρ io = ow dA Y) (p : Plc K t1 σ H io dA d Y x set) (E : Env K G0 G H L σ ρ) (h : EvFs K t σ G H sl) (hF : F a = some (.inl b))
    (k : forall v G2 H2, Env K G0 G2 H2 L σ (ss (ss ρ io .un) io (ow dA (set b.2))) -> rp K G2 v b.1 -> Q v H2) : tCall (PSe K pre F post cls pE) [] Ex (tCons t1 t) σ H Q := by
  have l0 : io < ρ.length := Env.lt (i := io) (by rw [hs]; exact fun z => nomatch z)
  refine E.take (te := t1) hs p fun vb eb rr H2 e2 E2 hb back => ?_
  refine E2.runs (fun G1 H1 L g e a Q q => h G1 H1 L g (e2.trans e) a Q q) fun ws G3 H3 g3 e3 E3 rs => ?_
  refine E3.callE (a := a) (vs := vb :: (ws ++ [])) (eb := eb) ?_ hF (fun b' hb' w G5 H5 es2 g r E5 => ?_) (fun c => c.elim)
  · rw [hp, List.append_nil]
    exact ⟨eb, [], ⟨_, rfl, d.mono g3 hb⟩, rs, by simp⟩
  · cases hb'
    rw [hq, List.append_nil] at r
    obtain ⟨f1, s1, ⟨z1, u1, hw1, k1'⟩, ⟨f2, s2, ⟨u2, hw2, k2'⟩, r3, y2⟩, y1⟩ := r
    cases hw1
    cases hw2
    have e2' := er_uns r3
    subst y2 y1 z1 e2'
    refine k _ G5 H5 (back G0 G5 b.2 f2 H5 _ (g3.trans g) (by rw [ss_len]; exact l0) k2' ?_) k1'
    simpa only [List.append_nil, List.nil_append] using E5
theorem Env.call2 {D1 D2 DA DB R α : Type} [Rp R] {dA : Ow DA} {dB : Ow DB} {d1 : Ow D1} {d2 : Ow D2} {pre : α -> List Slot} {F : α -> Option ((R × D1 × D2) ⊕ Empty)} {post : α -> R × D1 × D2 -> List Slot} {cls : Empty -> String} {pE : α -> Empty -> List Slot} {a : α} {Y1 : DA} {Y2 : DB} {x1 : D1} {x2 : D2} {set1 : D1 -> DA} {set2 : D2 -> DB} {b : R × D1 × D2} {Ex : XK} {i1 i2 n : Nat} {t1 t2 : TE} {t : TA} {sl : List Slot} {Q : VK}
    (hp : pre a = ow d1 x1 :: ow d2 x2 :: sl) (hq : forall b, post a b = fz b.1 :: ow d1 b.2.1 :: ow d2 b.2.2 :: List.replicate n .un) (n12 : i1 ≠ i2) (hs1 : sg ρ i1 = ow dA Y1) (hs2 : sg ρ i2 = ow dB Y2) (p1 : Plc K t1 σ H i1 dA d1 Y1 x1 set1) (p2 : Plc K t2 σ H i2 dB d2 Y2 x2 set2)
    (E : Env K G0 G H L σ ρ) (h : EvFs K t σ G H sl) (hF : F a = some (.inl b))
    (k : forall v G2 H2, Env K G0 G2 H2 L σ (ss (ss (ss (ss ρ i1 .un) i2 .un) i2 (ow dB (set2 b.2.2))) i1 (ow dA (set1 b.2.1))) -> rp K G2 v b.1 -> Q v H2) : tCall (PSe K pre F post cls pE) [] Ex (tCons t1 (tCons t2 t)) σ H Q := by
  have l1 : i1 < ρ.length := Env.lt (i := i1) (by rw [hs1]; exact fun z => nomatch z)
  have l2 : i2 < ρ.length := Env.lt (i := i2) (by rw [hs2]; exact fun z => nomatch z)
  refine E.take (te := t1) hs1 p1 fun vb eb rr H2 e2 E2 hb back => ?_
  refine E2.takeL (te := t2) (by rw [sg_ss_ne n12]; exact hs2) (p2.mono e2) fun vb2 eb2 rr2 H3 e3 E3 hb2 back2 => ?_
  refine E3.runs (fun G1 H1 L g e a Q q => h G1 H1 L g ((e2.trans e3).trans e) a Q q) fun ws G4 H4 g4 e4 E4 rs => ?_
  have E4' : Env K G0 G4 H4 ((eb ++ eb2) ++ (rr2 ++ (rr ++ L))) σ (ss (ss ρ i1 .un) i2 .un) := by
    obtain ⟨es, r, a⟩ := E4.er
    refine ⟨E4.g0, es, r, a.perm (List.Perm.append_left es ?_)⟩
    have z : (eb2 ++ (rr2 ++ (eb ++ (rr ++ L)))).Perm (eb ++ (eb2 ++ (rr2 ++ (rr ++ L)))) := by
      have z1 : (rr2 ++ (eb ++ (rr ++ L))).Perm (eb ++ (rr2 ++ (rr ++ L))) := Pu.p1
      exact (z1.append_left eb2).trans Pu.p1
    rw [List.append_assoc]
    exact z
  refine E4'.callE (a := a) (vs := vb :: vb2 :: (ws ++ [])) ?_ hF (fun b' hb' w G5 H5 es2 g r E5 => ?_) (fun c => c.elim)
  · rw [hp, List.append_nil]
    exact ⟨eb, eb2, ⟨_, rfl, d1.mono g4 hb⟩, ⟨eb2, [], ⟨_, rfl, d2.mono g4 hb2⟩, rs, by simp⟩, rfl⟩
  · cases hb'
    rw [hq, List.append_nil] at r
    obtain ⟨f1, s1, ⟨z1, u1, hw1, k1'⟩, ⟨f2, s2, ⟨u2, hw2, k2'⟩, ⟨f3, s3, ⟨u3, hw3, k3'⟩, r4, y3⟩, y2⟩, y1⟩ := r
    cases hw1
    cases hw2
    cases hw3
    have e2' := er_uns r4
    subst y3 y2 y1 z1 e2'
    have E6 : Env K G0 G5 H5 (f3 ++ (rr2 ++ (f2 ++ (rr ++ L)))) σ (ss (ss ρ i1 .un) i2 .un) := by
      obtain ⟨es, r, a⟩ := E5.er
      refine ⟨E5.g0, es, r, a.perm (List.Perm.append_left es ?_)⟩
      simp only [List.append_nil, List.nil_append, List.append_assoc]
      have z1 : (rr2 ++ (f2 ++ (rr ++ L))).Perm (f2 ++ (rr2 ++ (rr ++ L))) := Pu.p1
      exact (Pu.p1).trans (z1.symm.append_left f3)
    have E7 := back2 G0 G5 b.2.2 f3 H5 _ _ (g4.trans g) (by rw [ss_len, ss_len]; exact l2) k3' E6
    exact k _ G5 H5 (back G0 G5 b.2.1 f2 H5 _ (g4.trans g) (by rw [ss_len, ss_len, ss_len]; exact l1) k2' E7) k1'
end
end Pu

set_option Elab.async false
set_option linter.all false
set_option maxRecDepth 100000
namespace Law
open PySem PySem.Spec PyProof.Rows L2 Pu
open Pu.Rp (rp)
def topS (i : Nat) : Stmt := PySem.Challenge.pw_gatewright_k11_groups_refused_then_good.main.body.getD i (.Pass ⟨0, 0, 0, 0⟩)
def clsS (i j : Nat) : Stmt := match topS i with | .ClassDef (body := b) .. => b.getD j (.Pass ⟨0, 0, 0, 0⟩) | s => s
abbrev s_is_name : Stmt := topS 16
theorem sc_is_name : FnScope ["thing"] ["thing"] (defScope s_is_name) := ⟨rfl, rfl, rfl, by decide +kernel, rfl, by decide +kernel, by decide +kernel⟩
abbrev s_Folk_people : Stmt := clsS 18 1
theorem sc_Folk_people : FnScope ["self"] ["self"] (defScope s_Folk_people) := ⟨rfl, rfl, rfl, by decide +kernel, rfl, by decide +kernel, by decide +kernel⟩
abbrev s_Folk_groups : Stmt := clsS 18 7
theorem sc_Folk_groups : FnScope ["self"] ["self"] (defScope s_Folk_groups) := ⟨rfl, rfl, rfl, by decide +kernel, rfl, by decide +kernel, by decide +kernel⟩
abbrev s_Folk_is_group : Stmt := clsS 18 8
theorem sc_Folk_is_group : FnScope ["self", "word"] ["self", "word"] (defScope s_Folk_is_group) := ⟨rfl, rfl, rfl, by decide +kernel, rfl, by decide +kernel, by decide +kernel⟩
abbrev s_Folk_straight : Stmt := clsS 18 6
theorem sc_Folk_straight : FnScope ["self", "group"] ["self", "group"] (defScope s_Folk_straight) := ⟨rfl, rfl, rfl, by decide +kernel, rfl, by decide +kernel, by decide +kernel⟩
abbrev s_Folk_has_word : Stmt := clsS 18 9
theorem sc_Folk_has_word : FnScope ["self", "word"] ["self", "word"] (defScope s_Folk_has_word) := ⟨rfl, rfl, rfl, by decide +kernel, rfl, by decide +kernel, by decide +kernel⟩
abbrev s_Folk_need_word : Stmt := clsS 18 10
theorem sc_Folk_need_word : FnScope ["self", "word"] ["self", "word"] (defScope s_Folk_need_word) := ⟨rfl, rfl, rfl, by decide +kernel, rfl, by decide +kernel, by decide +kernel⟩
abbrev s_Folk_in_it : Stmt := clsS 18 4
theorem sc_Folk_in_it : FnScope ["self", "word", "seen", "waiting", "outer", "member", "name"] ["self", "word"] (defScope s_Folk_in_it) := ⟨rfl, rfl, rfl, by decide +kernel, rfl, by decide +kernel, by decide +kernel⟩
abbrev s_Folk_groups_of : Stmt := clsS 18 5
theorem sc_Folk_groups_of : FnScope ["self", "word", "seen", "waiting", "inner", "group", "members"] ["self", "word"] (defScope s_Folk_groups_of) := ⟨rfl, rfl, rfl, by decide +kernel, rfl, by decide +kernel, by decide +kernel⟩
abbrev s_law_cell_at : Stmt := topS 20
theorem sc_law_cell_at : FnScope ["_law_script", "_law_k"] ["_law_script", "_law_k"] (defScope s_law_cell_at) := ⟨rfl, rfl, rfl, by decide +kernel, rfl, by decide +kernel, by decide +kernel⟩
abbrev s_law_mixed : Stmt := topS 21
theorem sc_law_mixed : FnScope ["_law_cell", "_law_k", "_law_number"] ["_law_cell", "_law_k"] (defScope s_law_mixed) := ⟨rfl, rfl, rfl, by decide +kernel, rfl, by decide +kernel, by decide +kernel⟩
abbrev s_law_names : Stmt := topS 22
theorem sc_law_names : FnScope ["_law_cell", "_law_many", "_law_letters", "_law_row", "_law_at", "_law_long", "_law_step", "_law_found", "_law_k", "_law_sign", "_law_word", "_law_j"] ["_law_cell", "_law_many"] (defScope s_law_names) := ⟨rfl, rfl, rfl, by decide +kernel, rfl, by decide +kernel, by decide +kernel⟩
abbrev s_law_reached : Stmt := topS 25
theorem sc_law_reached : FnScope ["_law_rows", "_law_word", "_law_found", "_law_at", "_law_member"] ["_law_rows", "_law_word"] (defScope s_law_reached) := ⟨rfl, rfl, rfl, by decide +kernel, rfl, by decide +kernel, by decide +kernel⟩
abbrev s_law_words : Stmt := topS 24
theorem sc_law_words : FnScope ["_law_script", "_law_one", "_law_other", "_law_names_here", "_law_many", "_law_name"] ["_law_script"] (defScope s_law_words) := ⟨rfl, rfl, rfl, by decide +kernel, rfl, by decide +kernel, by decide +kernel⟩
abbrev s_Folk_put : Stmt := clsS 18 2
theorem sc_Folk_put : FnScope ["self", "group", "member", "members"] ["self", "group", "member"] (defScope s_Folk_put) := ⟨rfl, rfl, rfl, by decide +kernel, rfl, by decide +kernel, by decide +kernel⟩
abbrev s_Folk_take : Stmt := clsS 18 3
theorem sc_Folk_take : FnScope ["self", "group", "member"] ["self", "group", "member"] (defScope s_Folk_take) := ⟨rfl, rfl, rfl, by decide +kernel, rfl, by decide +kernel, by decide +kernel⟩
abbrev s_Folk___init__ : Stmt := clsS 18 0
theorem sc_Folk___init__ : FnScope ["self", "people"] ["self", "people"] (defScope s_Folk___init__) := ⟨rfl, rfl, rfl, by decide +kernel, rfl, by decide +kernel, by decide +kernel⟩
abbrev s_law_kinds : Stmt := topS 23
theorem sc_law_kinds : FnScope ["_law_e", "_law_some", "_law_word", "_law_fits"] ["_law_e"] (defScope s_law_kinds) := ⟨rfl, rfl, rfl, by decide +kernel, rfl, by decide +kernel, by decide +kernel⟩
abbrev s_law_odd : Stmt := topS 26
theorem sc_law_odd : FnScope ["_law_mixed_here", "_law_people", "_law_some"] ["_law_mixed_here", "_law_people"] (defScope s_law_odd) := ⟨rfl, rfl, rfl, by decide +kernel, rfl, by decide +kernel, by decide +kernel⟩
abbrev s_law_thing : Stmt := topS 27
theorem sc_law_thing : FnScope ["_law_mixed_here", "_law_people", "_law_groups", "_law_way", "_law_some"] ["_law_mixed_here", "_law_people", "_law_groups"] (defScope s_law_thing) := ⟨rfl, rfl, rfl, by decide +kernel, rfl, by decide +kernel, by decide +kernel⟩
abbrev s_law_put_due : Stmt := topS 28
theorem sc_law_put_due : FnScope ["_law_rows", "_law_people", "_law_group", "_law_member"] ["_law_rows", "_law_people", "_law_group", "_law_member"] (defScope s_law_put_due) := ⟨rfl, rfl, rfl, by decide +kernel, rfl, by decide +kernel, by decide +kernel⟩
abbrev s_law_take_due : Stmt := topS 29
theorem sc_law_take_due : FnScope ["_law_rows", "_law_group", "_law_member"] ["_law_rows", "_law_group", "_law_member"] (defScope s_law_take_due) := ⟨rfl, rfl, rfl, by decide +kernel, rfl, by decide +kernel, by decide +kernel⟩
abbrev s_law_stands : Stmt := topS 33
theorem sc_law_stands : FnScope ["_law_folk", "_law_rows", "_law_group"] ["_law_folk", "_law_rows"] (defScope s_law_stands) := ⟨rfl, rfl, rfl, by decide +kernel, rfl, by decide +kernel, by decide +kernel⟩
abbrev s_law_tried : Stmt := topS 30
theorem sc_law_tried : FnScope ["_law_folk", "_law_deed", "_law_thing_here", "_law_other", "_law_fault", "_law_found", "_law_e"] ["_law_folk", "_law_deed", "_law_thing_here", "_law_other"] (defScope s_law_tried) := ⟨rfl, rfl, rfl, by decide +kernel, rfl, by decide +kernel, by decide +kernel⟩
abbrev s_law_done : Stmt := topS 31
theorem sc_law_done : FnScope ["_law_folk", "_law_rows", "_law_people", "_law_groups", "_law_mixed_here", "_law_more", "_law_deed", "_law_group", "_law_member", "_law_due", "_law_found", "_law_own", "_law_one"] ["_law_folk", "_law_rows", "_law_people", "_law_groups", "_law_mixed_here", "_law_more"] (defScope s_law_done) := ⟨rfl, rfl, rfl, by decide +kernel, rfl, by decide +kernel, by decide +kernel⟩
abbrev s_law_asked : Stmt := topS 32
theorem sc_law_asked : FnScope ["_law_folk", "_law_rows", "_law_people", "_law_groups", "_law_mixed_here", "_law_thing_here", "_law_deed", "_law_is_there", "_law_found"] ["_law_folk", "_law_rows", "_law_people", "_law_groups", "_law_mixed_here"] (defScope s_law_asked) := ⟨rfl, rfl, rfl, by decide +kernel, rfl, by decide +kernel, by decide +kernel⟩
abbrev s_law : Stmt := topS 34
theorem sc_law : FnScope ["_law_script", "_law_people", "_law_groups", "_law_folks", "_law_rows", "_law_k", "_law_cell", "_law_mixed_here", "_law_who"] ["_law_script"] (defScope s_law) := ⟨rfl, rfl, rfl, by decide +kernel, rfl, by decide +kernel, by decide +kernel⟩
theorem bb_ValueError : bootBuiltins "ValueError" = some (.type "ValueError") := by decide +kernel
theorem bb_enumerate : bootBuiltins "enumerate" = some (.type "enumerate") := by decide +kernel
theorem bb_int : bootBuiltins "int" = some (.type "int") := by decide +kernel
theorem bb_isinstance : bootBuiltins "isinstance" = some (.builtin "isinstance") := by decide +kernel
theorem bb_len : bootBuiltins "len" = some (.builtin "len") := by decide +kernel
theorem bb_list : bootBuiltins "list" = some (.type "list") := by decide +kernel
theorem bb_min : bootBuiltins "min" = some (.builtin "min") := by decide +kernel
theorem bb_range : bootBuiltins "range" = some (.type "range") := by decide +kernel
theorem bb_sorted : bootBuiltins "sorted" = some (.builtin "sorted") := by decide +kernel
theorem bb_str : bootBuiltins "str" = some (.type "str") := by decide +kernel
theorem bb_tuple : bootBuiltins "tuple" = some (.type "tuple") := by decide +kernel
structure Txt (K : Fg) (mg : Str → Option Value) where
  c_Folk : Addr
  g_Folk : mg "Folk" = some (.ref c_Folk)
  i_Folk : isC K "Folk" c_Folk
  cl_Folk : Cls K c_Folk
  na_Folk_members : NoAttr K c_Folk "members"
  na_Folk_names : NoAttr K c_Folk "names"
  a_is_name : Addr
  d_is_name : FuncData
  F_is_name : Fun K "is_name" "is_name" s_is_name a_is_name d_is_name
  b_is_name : Binds K d_is_name ["thing"] []
  g_is_name : mg "is_name" = some (.ref a_is_name)
  a_Folk_people : Addr
  d_Folk_people : FuncData
  F_Folk_people : Fun K "people" "Folk.people" s_Folk_people a_Folk_people d_Folk_people
  b_Folk_people : Binds K d_Folk_people ["self"] []
  M_Folk_people : Meth K c_Folk "people" a_Folk_people
  a_Folk_groups : Addr
  d_Folk_groups : FuncData
  F_Folk_groups : Fun K "groups" "Folk.groups" s_Folk_groups a_Folk_groups d_Folk_groups
  b_Folk_groups : Binds K d_Folk_groups ["self"] []
  M_Folk_groups : Meth K c_Folk "groups" a_Folk_groups
  a_Folk_is_group : Addr
  d_Folk_is_group : FuncData
  F_Folk_is_group : Fun K "is_group" "Folk.is_group" s_Folk_is_group a_Folk_is_group d_Folk_is_group
  b_Folk_is_group : Binds K d_Folk_is_group ["self", "word"] []
  M_Folk_is_group : Meth K c_Folk "is_group" a_Folk_is_group
  a_Folk_straight : Addr
  d_Folk_straight : FuncData
  F_Folk_straight : Fun K "straight" "Folk.straight" s_Folk_straight a_Folk_straight d_Folk_straight
  b_Folk_straight : Binds K d_Folk_straight ["self", "group"] []
  M_Folk_straight : Meth K c_Folk "straight" a_Folk_straight
  a_Folk_has_word : Addr
  d_Folk_has_word : FuncData
  F_Folk_has_word : Fun K "has_word" "Folk.has_word" s_Folk_has_word a_Folk_has_word d_Folk_has_word
  b_Folk_has_word : Binds K d_Folk_has_word ["self", "word"] []
  M_Folk_has_word : Meth K c_Folk "has_word" a_Folk_has_word
  a_Folk_need_word : Addr
  d_Folk_need_word : FuncData
  F_Folk_need_word : Fun K "need_word" "Folk.need_word" s_Folk_need_word a_Folk_need_word d_Folk_need_word
  b_Folk_need_word : Binds K d_Folk_need_word ["self", "word"] []
  M_Folk_need_word : Meth K c_Folk "need_word" a_Folk_need_word
  a_Folk_in_it : Addr
  d_Folk_in_it : FuncData
  F_Folk_in_it : Fun K "in_it" "Folk.in_it" s_Folk_in_it a_Folk_in_it d_Folk_in_it
  b_Folk_in_it : Binds K d_Folk_in_it ["self", "word"] []
  M_Folk_in_it : Meth K c_Folk "in_it" a_Folk_in_it
  a_Folk_groups_of : Addr
  d_Folk_groups_of : FuncData
  F_Folk_groups_of : Fun K "groups_of" "Folk.groups_of" s_Folk_groups_of a_Folk_groups_of d_Folk_groups_of
  b_Folk_groups_of : Binds K d_Folk_groups_of ["self", "word"] []
  M_Folk_groups_of : Meth K c_Folk "groups_of" a_Folk_groups_of
  a_law_cell_at : Addr
  d_law_cell_at : FuncData
  F_law_cell_at : Fun K "_law_cell_at" "_law_cell_at" s_law_cell_at a_law_cell_at d_law_cell_at
  b_law_cell_at : Binds K d_law_cell_at ["_law_script", "_law_k"] []
  g_law_cell_at : mg "_law_cell_at" = some (.ref a_law_cell_at)
  a_law_mixed : Addr
  d_law_mixed : FuncData
  F_law_mixed : Fun K "_law_mixed" "_law_mixed" s_law_mixed a_law_mixed d_law_mixed
  b_law_mixed : Binds K d_law_mixed ["_law_cell", "_law_k"] []
  g_law_mixed : mg "_law_mixed" = some (.ref a_law_mixed)
  a_law_names : Addr
  d_law_names : FuncData
  F_law_names : Fun K "_law_names" "_law_names" s_law_names a_law_names d_law_names
  b_law_names : Binds K d_law_names ["_law_cell", "_law_many"] []
  g_law_names : mg "_law_names" = some (.ref a_law_names)
  a_law_reached : Addr
  d_law_reached : FuncData
  F_law_reached : Fun K "_law_reached" "_law_reached" s_law_reached a_law_reached d_law_reached
  b_law_reached : Binds K d_law_reached ["_law_rows", "_law_word"] []
  g_law_reached : mg "_law_reached" = some (.ref a_law_reached)
  a_law_words : Addr
  d_law_words : FuncData
  F_law_words : Fun K "_law_words" "_law_words" s_law_words a_law_words d_law_words
  b_law_words : Binds K d_law_words ["_law_script"] []
  g_law_words : mg "_law_words" = some (.ref a_law_words)
  a_Folk_put : Addr
  d_Folk_put : FuncData
  F_Folk_put : Fun K "put" "Folk.put" s_Folk_put a_Folk_put d_Folk_put
  b_Folk_put : Binds K d_Folk_put ["self", "group", "member"] []
  M_Folk_put : Meth K c_Folk "put" a_Folk_put
  a_Folk_take : Addr
  d_Folk_take : FuncData
  F_Folk_take : Fun K "take" "Folk.take" s_Folk_take a_Folk_take d_Folk_take
  b_Folk_take : Binds K d_Folk_take ["self", "group", "member"] []
  M_Folk_take : Meth K c_Folk "take" a_Folk_take
  a_Folk___init__ : Addr
  d_Folk___init__ : FuncData
  F_Folk___init__ : Fun K "__init__" "Folk.__init__" s_Folk___init__ a_Folk___init__ d_Folk___init__
  b_Folk___init__ : Binds K d_Folk___init__ ["self", "people"] []
  K_Folk : Mk K c_Folk a_Folk___init__
  a_law_kinds : Addr
  d_law_kinds : FuncData
  F_law_kinds : Fun K "_law_kinds" "_law_kinds" s_law_kinds a_law_kinds d_law_kinds
  b_law_kinds : Binds K d_law_kinds ["_law_e"] []
  g_law_kinds : mg "_law_kinds" = some (.ref a_law_kinds)
  a_law_odd : Addr
  d_law_odd : FuncData
  F_law_odd : Fun K "_law_odd" "_law_odd" s_law_odd a_law_odd d_law_odd
  b_law_odd : Binds K d_law_odd ["_law_mixed_here", "_law_people"] []
  g_law_odd : mg "_law_odd" = some (.ref a_law_odd)
  a_law_thing : Addr
  d_law_thing : FuncData
  F_law_thing : Fun K "_law_thing" "_law_thing" s_law_thing a_law_thing d_law_thing
  b_law_thing : Binds K d_law_thing ["_law_mixed_here", "_law_people", "_law_groups"] []
  g_law_thing : mg "_law_thing" = some (.ref a_law_thing)
  a_law_put_due : Addr
  d_law_put_due : FuncData
  F_law_put_due : Fun K "_law_put_due" "_law_put_due" s_law_put_due a_law_put_due d_law_put_due
  b_law_put_due : Binds K d_law_put_due ["_law_rows", "_law_people", "_law_group", "_law_member"] []
  g_law_put_due : mg "_law_put_due" = some (.ref a_law_put_due)
  a_law_take_due : Addr
  d_law_take_due : FuncData
  F_law_take_due : Fun K "_law_take_due" "_law_take_due" s_law_take_due a_law_take_due d_law_take_due
  b_law_take_due : Binds K d_law_take_due ["_law_rows", "_law_group", "_law_member"] []
  g_law_take_due : mg "_law_take_due" = some (.ref a_law_take_due)
  a_law_stands : Addr
  d_law_stands : FuncData
  F_law_stands : Fun K "_law_stands" "_law_stands" s_law_stands a_law_stands d_law_stands
  b_law_stands : Binds K d_law_stands ["_law_folk", "_law_rows"] []
  g_law_stands : mg "_law_stands" = some (.ref a_law_stands)
  a_law_tried : Addr
  d_law_tried : FuncData
  F_law_tried : Fun K "_law_tried" "_law_tried" s_law_tried a_law_tried d_law_tried
  b_law_tried : Binds K d_law_tried ["_law_folk", "_law_deed", "_law_thing_here", "_law_other"] []
  g_law_tried : mg "_law_tried" = some (.ref a_law_tried)
  a_law_done : Addr
  d_law_done : FuncData
  F_law_done : Fun K "_law_done" "_law_done" s_law_done a_law_done d_law_done
  b_law_done : Binds K d_law_done ["_law_folk", "_law_rows", "_law_people", "_law_groups", "_law_mixed_here", "_law_more"] []
  g_law_done : mg "_law_done" = some (.ref a_law_done)
  a_law_asked : Addr
  d_law_asked : FuncData
  F_law_asked : Fun K "_law_asked" "_law_asked" s_law_asked a_law_asked d_law_asked
  b_law_asked : Binds K d_law_asked ["_law_folk", "_law_rows", "_law_people", "_law_groups", "_law_mixed_here"] []
  g_law_asked : mg "_law_asked" = some (.ref a_law_asked)
  a_law : Addr
  d_law : FuncData
  F_law : Fun K "law" "law" s_law a_law d_law
  b_law : Binds K d_law ["_law_script"] []
  g_law : mg "law" = some (.ref a_law)
  n_ValueError : mg "ValueError" = none
  n_enumerate : mg "enumerate" = none
  n_int : mg "int" = none
  n_isinstance : mg "isinstance" = none
  n_len : mg "len" = none
  n_list : mg "list" = none
  n_min : mg "min" = none
  n_range : mg "range" = none
  n_sorted : mg "sorted" = none
  n_str : mg "str" = none
  n_tuple : mg "tuple" = none
  u_LONGEST_NAME : Value
  m_LONGEST_NAME : mg "LONGEST_NAME" = some u_LONGEST_NAME
  v_LONGEST_NAME : RelV (.int 8) u_LONGEST_NAME
  c_BadAsking : Addr
  g_BadAsking : mg "BadAsking" = some (.ref c_BadAsking)
  i_BadAsking : isC K "BadAsking" c_BadAsking
  c_BadSet : Addr
  g_BadSet : mg "BadSet" = some (.ref c_BadSet)
  i_BadSet : isC K "BadSet" c_BadSet
  c_BadText : Addr
  g_BadText : mg "BadText" = some (.ref c_BadText)
  i_BadText : isC K "BadText" c_BadText
  c_BadValue : Addr
  g_BadValue : mg "BadValue" = some (.ref c_BadValue)
  i_BadValue : isC K "BadValue" c_BadValue
  c_BadWish : Addr
  g_BadWish : mg "BadWish" = some (.ref c_BadWish)
  i_BadWish : isC K "BadWish" c_BadWish
  c_GateError : Addr
  g_GateError : mg "GateError" = some (.ref c_GateError)
  i_GateError : isC K "GateError" c_GateError
  c_InUse : Addr
  g_InUse : mg "InUse" = some (.ref c_InUse)
  i_InUse : isC K "InUse" c_InUse
  c_NoGate : Addr
  g_NoGate : mg "NoGate" = some (.ref c_NoGate)
  i_NoGate : isC K "NoGate" c_NoGate
  c_NoName : Addr
  g_NoName : mg "NoName" = some (.ref c_NoName)
  i_NoName : isC K "NoName" c_NoName
  c_NoRule : Addr
  g_NoRule : mg "NoRule" = some (.ref c_NoRule)
  i_NoRule : isC K "NoRule" c_NoRule
  c_NoVersion : Addr
  g_NoVersion : mg "NoVersion" = some (.ref c_NoVersion)
  i_NoVersion : isC K "NoVersion" c_NoVersion
  c_Ring : Addr
  g_Ring : mg "Ring" = some (.ref c_Ring)
  i_Ring : isC K "Ring" c_Ring
  c_TooMuch : Addr
  g_TooMuch : mg "TooMuch" = some (.ref c_TooMuch)
  i_TooMuch : isC K "TooMuch" c_TooMuch
  x_NoName : PySem.W.excIn K c_NoName [.type "ValueError", .type "Exception", .type "BaseException", .type "object"] "ValueError.__new__" = true
  k_NoName : PySem.W.keepIn K (.ref c_NoName) = true
  b_NoName : PySem.W.subIn K (.ref c_NoName) (.type "BaseException") = some true
  t_NoName : PySem.W.typeIn K (.ref c_NoName) = some (.type "type")
  x_Ring : PySem.W.excIn K c_Ring [.type "ValueError", .type "Exception", .type "BaseException", .type "object"] "ValueError.__new__" = true
  k_Ring : PySem.W.keepIn K (.ref c_Ring) = true
  b_Ring : PySem.W.subIn K (.ref c_Ring) (.type "BaseException") = some true
  t_Ring : PySem.W.typeIn K (.ref c_Ring) = some (.type "type")
  xm_GateError : forall c, c ∈ ["NoName", "Ring"] -> forall C, isC K c C -> PySem.W.exmOne K (.ref C) (.ref c_GateError) = some true
  ki_BadAsking : forall c, c ∈ ["NoName", "Ring"] -> forall C, isC K c C -> ExcC K C ∧ PySem.W.kitOne K (.ref C) (.ref c_BadAsking) = some (decide (c = "BadAsking"))
  ki_BadSet : forall c, c ∈ ["NoName", "Ring"] -> forall C, isC K c C -> ExcC K C ∧ PySem.W.kitOne K (.ref C) (.ref c_BadSet) = some (decide (c = "BadSet"))
  ki_BadText : forall c, c ∈ ["NoName", "Ring"] -> forall C, isC K c C -> ExcC K C ∧ PySem.W.kitOne K (.ref C) (.ref c_BadText) = some (decide (c = "BadText"))
  ki_BadValue : forall c, c ∈ ["NoName", "Ring"] -> forall C, isC K c C -> ExcC K C ∧ PySem.W.kitOne K (.ref C) (.ref c_BadValue) = some (decide (c = "BadValue"))
  ki_BadWish : forall c, c ∈ ["NoName", "Ring"] -> forall C, isC K c C -> ExcC K C ∧ PySem.W.kitOne K (.ref C) (.ref c_BadWish) = some (decide (c = "BadWish"))
  ki_InUse : forall c, c ∈ ["NoName", "Ring"] -> forall C, isC K c C -> ExcC K C ∧ PySem.W.kitOne K (.ref C) (.ref c_InUse) = some (decide (c = "InUse"))
  ki_NoGate : forall c, c ∈ ["NoName", "Ring"] -> forall C, isC K c C -> ExcC K C ∧ PySem.W.kitOne K (.ref C) (.ref c_NoGate) = some (decide (c = "NoGate"))
  ki_NoName : forall c, c ∈ ["NoName", "Ring"] -> forall C, isC K c C -> ExcC K C ∧ PySem.W.kitOne K (.ref C) (.ref c_NoName) = some (decide (c = "NoName"))
  ki_NoRule : forall c, c ∈ ["NoName", "Ring"] -> forall C, isC K c C -> ExcC K C ∧ PySem.W.kitOne K (.ref C) (.ref c_NoRule) = some (decide (c = "NoRule"))
  ki_NoVersion : forall c, c ∈ ["NoName", "Ring"] -> forall C, isC K c C -> ExcC K C ∧ PySem.W.kitOne K (.ref C) (.ref c_NoVersion) = some (decide (c = "NoVersion"))
  ki_Ring : forall c, c ∈ ["NoName", "Ring"] -> forall C, isC K c C -> ExcC K C ∧ PySem.W.kitOne K (.ref C) (.ref c_Ring) = some (decide (c = "Ring"))
  ki_TooMuch : forall c, c ∈ ["NoName", "Ring"] -> forall C, isC K c C -> ExcC K C ∧ PySem.W.kitOne K (.ref C) (.ref c_TooMuch) = some (decide (c = "TooMuch"))
  ki_ValueError : forall c, c ∈ ["NoName", "Ring"] -> forall C, isC K c C -> ExcC K C ∧ PySem.W.kitOne K (.ref C) (.type "ValueError") = some true
/-! is_name -/
def m_is_name (x_thing : Dy) : Option Bool := ((oOr (oNot (o1 (fIsY "str") (some x_thing))) (oNot (oChain fLe fLe (some (1 : Int)) (o1 fLenX (o1 yStr (some x_thing))) (some (8 : Int)))))).bind fun b1 => if b1 = true then (some false) else (oAnd (o1 (fS Txt.isascii) (o1 yStr (some x_thing))) (oAnd (o1 (fS Txt.isalpha) (o1 yStr (some x_thing))) (o1 (fS Txt.islower) (o1 yStr (some x_thing)))))
set_option maxHeartbeats 4000000 in
theorem ok_is_name {P : Program} {w : World} {K : Fg} {mg : Str → Option Value} {base : Heap} (T : Txt K mg) : FnOk P w K mg base CX0 1 T.a_is_name T.d_is_name ["thing"] (PSb K (A1 K m_is_name)) := by
  refine T.F_is_name.ok sc_is_name (fun vs H Q E h => ?_) (fun cdv A0 outer s H vs Q E hr h => ?_)
  · obtain ⟨r, ⟨v_thing, x_thing, rfl, r_thing, hm⟩, q⟩ := h
    rfl
  · obtain ⟨r_fn, ⟨v_thing, x_thing, rfl, r_thing, hm⟩, q⟩ := h
    refine ⟨_, (pss_cons (ps_if (PW.pt (pw_or (pt_not (pt_val (pe_callB (isi_K (K := K) rfl) (by rfl) T.n_isinstance bb_isinstance (pa_cons (pv 0) (pa_cons (pe_bltn (v := .ty "str") (by rfl) T.n_str bb_str rfl) pa_nil))))) (pw_or1 (pt_not (pt_chain op_le op_le pe_int (pe_callB call_len_str (by rfl) T.n_len bb_len (pa_cons (pv 0) pa_nil)) (pe_glob (v := .int 8) (by rfl) T.m_LONGEST_NAME T.v_LONGEST_NAME)))))) (pss_cons (ps_ret pe_bl) pss_nil) pss_nil) (pss_cons (ps_ret (pe_and (pe_bm0 PySem.F.plainAttrs_str PySem.F.slot_str_isascii PySem.F.type_str_isascii mt_isascii (pv 0)) (pe_and (pe_bm0 PySem.F.plainAttrs_str PySem.F.slot_str_isalpha PySem.F.type_str_isalpha mt_isalpha (pv 0)) (pe_one (pe_bm0 PySem.F.plainAttrs_str PySem.F.slot_str_islower PySem.F.type_str_islower mt_islower (pv 0)))))) pss_nil)), ?_⟩
    unfold m_is_name at hm
    obtain ⟨H0, e0, q⟩ := heapB q
    obtain ⟨G, A, g0, r_thing⟩ : exists G, At G H [] ∧ Gx H0 G ∧ rp K G v_thing x_thing := ⟨H, At.nil H, e0, r_thing⟩
    clear e0
    obtain ⟨b1, hb1, hm⟩ := bnd hm
    refine st_if (et_or (et_not (et_b (x_isiY kitY_str (eb_v rfl (Rp.mono A.ex r_thing))))) (et_not (et_test (x_lele (eb_int (K := K)) (x_lenX (x_cast (fun h r => y_str h r) (eb_v rfl (Rp.mono A.ex r_thing)))) (eb_int (K := K)))))) hb1 (fun eb1 H2 e => ?_) (fun eb1 H2 e => ?_)
    · subst eb1
      replace hm := itt hm
      replace A := A.grow e
      exact sr_b (u := fun _ _ _ => True) (σ := []) (eb_bl (K := K)) hm fun w H e r => q w H ((g0.trans A.ex).trans e) r
    · subst eb1
      replace hm := itf hm
      replace A := A.grow e
      exact sr_b (eb_and (x_sB (x_cast (fun h r => y_str h r) (eb_v rfl (Rp.mono A.ex r_thing)))) (eb_and (x_sB (x_cast (fun h r => y_str h r) (eb_v rfl (Rp.mono A.ex r_thing)))) (x_sB (x_cast (fun h r => y_str h r) (eb_v rfl (Rp.mono A.ex r_thing)))))) hm fun w H e r => q w H ((g0.trans A.ex).trans e) r
/-! Folk.people -/
def m_Folk_people (x_self : FolkS) : Option (List Str) := (o1 fListT (((some x_self)).map (fun x => (⟨x.names⟩ : Tl Str))))
set_option maxHeartbeats 4000000 in
theorem ok_Folk_people {P : Program} {w : World} {K : Fg} {mg : Str → Option Value} {base : Heap} (T : Txt K mg) : FnOk P w K mg base CX0 1 T.a_Folk_people T.d_Folk_people ["self"] (PSn K (A1 K m_Folk_people)) := by
  refine T.F_Folk_people.ok sc_Folk_people (fun vs H Q E h => ?_) (fun cdv A0 outer s H vs Q E hr h => ?_)
  · obtain ⟨r, ⟨v_self, x_self, rfl, r_self, hm⟩, q⟩ := h
    rfl
  · obtain ⟨r_fn, ⟨v_self, x_self, rfl, r_self, hm⟩, q⟩ := h
    refine ⟨_, (pss_cons (ps_ret (pe_callTy (lof_K (K := K) rfl) (by rfl) T.n_list bb_list (pa_cons (pe_fld (pv 0) rfl) pa_nil))) pss_nil), ?_⟩
    unfold m_Folk_people at hm
    obtain ⟨H0, e0, q⟩ := heapN q
    obtain ⟨G, A, g0, r_self⟩ : exists G, At G H [] ∧ Gx H0 G ∧ rp K G v_self x_self := ⟨H, At.nil H, e0, r_self⟩
    clear e0
    exact sr_n (x_listT (x_att folk_names T.i_Folk T.cl_Folk T.na_Folk_names (eb_v rfl (Rp.mono A.ex r_self)))) hm fun p ws H hp e h r => q p ws H ((g0.trans A.ex).back hp) ((g0.trans A.ex).trans e) h r
/-! Folk.groups -/
def m_Folk_groups (x_self : FolkS) : Option (List Str) := (o1 fSortS (o1 fListD (((some x_self)).map (fun x => (⟨x.rows⟩ : Ds (List Str))))))
set_option maxHeartbeats 4000000 in
theorem ok_Folk_groups {P : Program} {w : World} {K : Fg} {mg : Str → Option Value} {base : Heap} (T : Txt K mg) : FnOk P w K mg base CX0 1 T.a_Folk_groups T.d_Folk_groups ["self"] (PSn K (A1 K m_Folk_groups)) := by
  refine T.F_Folk_groups.ok sc_Folk_groups (fun vs H Q E h => ?_) (fun cdv A0 outer s H vs Q E hr h => ?_)
  · obtain ⟨r, ⟨v_self, x_self, rfl, r_self, hm⟩, q⟩ := h
    rfl
  · obtain ⟨r_fn, ⟨v_self, x_self, rfl, r_self, hm⟩, q⟩ := h
    refine ⟨_, (pss_cons (ps_ret (pe_callB (srtS_K (K := K) rfl) (by rfl) T.n_sorted bb_sorted (pa_cons (pe_callTy (call_listD rfl) (by rfl) T.n_list bb_list (pa_cons (pe_fld (pv 0) rfl) pa_nil)) pa_nil))) pss_nil), ?_⟩
    unfold m_Folk_groups at hm
    obtain ⟨H0, e0, q⟩ := heapN q
    obtain ⟨G, A, g0, r_self⟩ : exists G, At G H [] ∧ Gx H0 G ∧ rp K G v_self x_self := ⟨H, At.nil H, e0, r_self⟩
    clear e0
    exact sr_n (x_sortS ((x_listD (x_att folk_members T.i_Folk T.cl_Folk T.na_Folk_members (eb_v rfl (Rp.mono A.ex r_self))))).b) hm fun p ws H hp e h r => q p ws H ((g0.trans A.ex).back hp) ((g0.trans A.ex).trans e) h r
/-! Folk.is_group -/
def m_Folk_is_group (x_self : FolkS) (x_word : Dy) : Option Bool := (oAnd (o1 (fIsY "str") (some x_word)) (o2 fInD (o1 yStr (some x_word)) (((some x_self)).map (fun x => (⟨x.rows⟩ : Ds (List Str))))))
set_option maxHeartbeats 4000000 in
theorem ok_Folk_is_group {P : Program} {w : World} {K : Fg} {mg : Str → Option Value} {base : Heap} (T : Txt K mg) : FnOk P w K mg base CX0 1 T.a_Folk_is_group T.d_Folk_is_group ["self", "word"] (PSb K (A2 K m_Folk_is_group)) := by
  refine T.F_Folk_is_group.ok sc_Folk_is_group (fun vs H Q E h => ?_) (fun cdv A0 outer s H vs Q E hr h => ?_)
  · obtain ⟨r, ⟨v_self, v_word, x_self, x_word, rfl, r_self, r_word, hm⟩, q⟩ := h
    rfl
  · obtain ⟨r_fn, ⟨v_self, v_word, x_self, x_word, rfl, r_self, r_word, hm⟩, q⟩ := h
    refine ⟨_, (pss_cons (ps_ret (pe_and (pe_callB (isi_K (K := K) rfl) (by rfl) T.n_isinstance bb_isinstance (pa_cons (pv 1) (pa_cons (pe_bltn (v := .ty "str") (by rfl) T.n_str bb_str rfl) pa_nil))) (pe_one (pe_cmp (pc_din (hu_of hr) (pv 1) (pe_fld (pv 0) rfl)))))) pss_nil), ?_⟩
    unfold m_Folk_is_group at hm
    obtain ⟨H0, e0, q⟩ := heapB q
    obtain ⟨G, A, g0, r_self, r_word⟩ : exists G, At G H [] ∧ Gx H0 G ∧ rp K G v_self x_self ∧ rp K G v_word x_word := ⟨H, At.nil H, e0, r_self, r_word⟩
    clear e0
    exact sr_b (eb_and (x_isiY kitY_str (eb_v rfl (Rp.mono A.ex r_word))) (x_inD (x_cast (fun h r => y_str h r) (eb_v rfl (Rp.mono A.ex r_word))) (x_att folk_members T.i_Folk T.cl_Folk T.na_Folk_members (eb_v rfl (Rp.mono A.ex r_self))))) hm fun w H e r => q w H ((g0.trans A.ex).trans e) r
/-! Folk.straight -/
def m_Folk_straight (x_self : FolkS) (x_group : Dy) : Option ((List Str) ⊕ String) := ((oNot (o2 m_Folk_is_group (some x_self) (some x_group)))).bind fun b3 => if b3 = true then (some (Sum.inr "NoName")) else (((o1 fList (o2 fGetD (((some x_self)).map (fun x => (⟨x.rows⟩ : Ds (List Str)))) (o1 yStr (some x_group))))).bind fun y5 => some (Sum.inl y5))
set_option maxHeartbeats 4000000 in
theorem ok_Folk_straight {P : Program} {w : World} {K : Fg} {mg : Str → Option Value} {base : Heap} (T : Txt K mg) : FnOk P w K mg base (L2.CX P w) 2 T.a_Folk_straight T.d_Folk_straight ["self", "group"] (PSy K (A2 K m_Folk_straight)) := by
  refine T.F_Folk_straight.okX sc_Folk_straight (fun vs H Q E h => ?_) (fun cdv A0 outer s H vs Q E hr h => ?_)
  · obtain ⟨r, ⟨v_self, v_group, x_self, x_group, rfl, r_self, r_group, hm⟩, q⟩ := h
    rfl
  · obtain ⟨r_fn, ⟨v_self, v_group, x_self, x_group, rfl, r_self, r_group, hm⟩, qn, qx⟩ := h
    refine ⟨_, (pss_cons (ps_if (pt_not (pt_val (pe_meth (pv 0) T.cl_Folk T.M_Folk_is_group (ok_Folk_is_group T) (hr.mono (by decide)) T.b_Folk_is_group .nil pass0 (pa_cons (pv 1) pa_nil)))) (pss_cons (ps_raise rfl (takes_of rfl rfl rfl rfl) (pmk_own PySem.F.excBase_ValueError T.x_NoName T.g_NoName T.k_NoName (raises_own T.b_NoName T.t_NoName) rfl)) pss_nil) pss_nil) (pss_cons (ps_ret (pe_callTy (lof_K (K := K) rfl) (by rfl) T.n_list bb_list (pa_cons (pe_dget (hu_of hr) (pe_fld (pv 0) rfl) (pv 1) (fun _ _ => rfl)) pa_nil))) pss_nil)), ?_⟩
    unfold m_Folk_straight at hm
    obtain ⟨H0, e0, qn, qx⟩ := heapY qn qx
    obtain ⟨G, A, g0, r_self, r_group⟩ : exists G, At G H [] ∧ Gx H0 G ∧ rp K G v_self x_self ∧ rp K G v_group x_group := ⟨H, At.nil H, e0, r_self, r_group⟩
    clear e0
    obtain ⟨b3, hb3, hm⟩ := bnd hm
    refine st_if (et_not (et_b (x_m1 (folk_nm (m := "is_group") (by decide +kernel)) T.i_Folk (eb_v rfl (Rp.mono A.ex r_self)) (eb_v rfl (Rp.mono A.ex r_group))))) hb3 (fun eb3 H4 e => ?_) (fun eb3 H4 e => ?_)
    · subst eb3
      replace hm := itt hm
      replace A := A.grow e
      exact qx "NoName" (Option.some.inj hm).symm _ _ T.i_NoName (g0.trans A.ex)
    · subst eb3
      replace hm := itf hm
      replace A := A.grow e
      obtain ⟨y5, hy5, hm⟩ := bnd hm
      have er := Option.some.inj hm
      subst er
      exact sr_n (x_list (x_getD (x_att folk_members T.i_Folk T.cl_Folk T.na_Folk_members (eb_v rfl (Rp.mono A.ex r_self))) (x_cast (fun h r => y_str h r) (eb_v rfl (Rp.mono A.ex r_group))))) hy5 fun p ws H hp e h r => qn y5 rfl p ws H ((g0.trans A.ex).back hp) ((g0.trans A.ex).trans e) h r
/-! Folk.has_word -/
def m_Folk_has_word (x_self : FolkS) (x_word : Dy) : Option Bool := (oOr (o2 m_Folk_is_group (some x_self) (some x_word)) (oAnd (o1 (fIsY "str") (some x_word)) (o2 fInT (o1 yStr (some x_word)) (((some x_self)).map (fun x => (⟨x.names⟩ : Tl Str))))))
set_option maxHeartbeats 4000000 in
theorem ok_Folk_has_word {P : Program} {w : World} {K : Fg} {mg : Str → Option Value} {base : Heap} (T : Txt K mg) : FnOk P w K mg base CX0 2 T.a_Folk_has_word T.d_Folk_has_word ["self", "word"] (PSb K (A2 K m_Folk_has_word)) := by
  refine T.F_Folk_has_word.ok sc_Folk_has_word (fun vs H Q E h => ?_) (fun cdv A0 outer s H vs Q E hr h => ?_)
  · obtain ⟨r, ⟨v_self, v_word, x_self, x_word, rfl, r_self, r_word, hm⟩, q⟩ := h
    rfl
  · obtain ⟨r_fn, ⟨v_self, v_word, x_self, x_word, rfl, r_self, r_word, hm⟩, q⟩ := h
    refine ⟨_, (pss_cons (ps_ret (pe_or (pe_meth (pv 0) T.cl_Folk T.M_Folk_is_group (ok_Folk_is_group T) (hr.mono (by decide)) T.b_Folk_is_group .nil pass0 (pa_cons (pv 1) pa_nil)) (pe_one (pe_and (pe_callB (isi_K (K := K) rfl) (by rfl) T.n_isinstance bb_isinstance (pa_cons (pv 1) (pa_cons (pe_bltn (v := .ty "str") (by rfl) T.n_str bb_str rfl) pa_nil))) (pe_one (pe_cmpR (opIn_K (K := K) rfl) (pv 1) (pe_fld (pv 0) rfl) (by rfl))))))) pss_nil), ?_⟩
    unfold m_Folk_has_word at hm
    obtain ⟨H0, e0, q⟩ := heapB q
    obtain ⟨G, A, g0, r_self, r_word⟩ : exists G, At G H [] ∧ Gx H0 G ∧ rp K G v_self x_self ∧ rp K G v_word x_word := ⟨H, At.nil H, e0, r_self, r_word⟩
    clear e0
    exact sr_b (eb_or (x_m1 (folk_nm (m := "is_group") (by decide +kernel)) T.i_Folk (eb_v rfl (Rp.mono A.ex r_self)) (eb_v rfl (Rp.mono A.ex r_word))) (eb_and (x_isiY kitY_str (eb_v rfl (Rp.mono A.ex r_word))) (x_inT (x_cast (fun h r => y_str h r) (eb_v rfl (Rp.mono A.ex r_word))) (x_att folk_names T.i_Folk T.cl_Folk T.na_Folk_names (eb_v rfl (Rp.mono A.ex r_self)))))) hm fun w H e r => q w H ((g0.trans A.ex).trans e) r
/-! Folk.need_word -/
def m_Folk_need_word (x_self : FolkS) (x_word : Dy) : Option (Unit ⊕ String) := ((oNot (o2 m_Folk_has_word (some x_self) (some x_word)))).bind fun b6 => if b6 = true then (some (Sum.inr "NoName")) else (some (Sum.inl ()))
set_option maxHeartbeats 4000000 in
theorem ok_Folk_need_word {P : Program} {w : World} {K : Fg} {mg : Str → Option Value} {base : Heap} (T : Txt K mg) : FnOk P w K mg base (L2.CX P w) 3 T.a_Folk_need_word T.d_Folk_need_word ["self", "word"] (PSx K (A2 K m_Folk_need_word)) := by
  refine T.F_Folk_need_word.okX sc_Folk_need_word (fun vs H Q E h => ?_) (fun cdv A0 outer s H vs Q E hr h => ?_)
  · obtain ⟨r, ⟨v_self, v_word, x_self, x_word, rfl, r_self, r_word, hm⟩, q⟩ := h
    rfl
  · obtain ⟨r_fn, ⟨v_self, v_word, x_self, x_word, rfl, r_self, r_word, hm⟩, qn, qx⟩ := h
    refine ⟨_, (pss_cons (ps_if (pt_not (pt_val (pe_meth (pv 0) T.cl_Folk T.M_Folk_has_word (ok_Folk_has_word T) (hr.mono (by decide)) T.b_Folk_has_word .nil pass0 (pa_cons (pv 1) pa_nil)))) (pss_cons (ps_raise rfl (takes_of rfl rfl rfl rfl) (pmk_own PySem.F.excBase_ValueError T.x_NoName T.g_NoName T.k_NoName (raises_own T.b_NoName T.t_NoName) rfl)) pss_nil) pss_nil) pss_nil), ?_⟩
    unfold m_Folk_need_word at hm
    obtain ⟨H0, e0, qn, qx⟩ := heapX qn qx
    obtain ⟨G, A, g0, r_self, r_word⟩ : exists G, At G H [] ∧ Gx H0 G ∧ rp K G v_self x_self ∧ rp K G v_word x_word := ⟨H, At.nil H, e0, r_self, r_word⟩
    clear e0
    obtain ⟨b6, hb6, hm⟩ := bnd hm
    refine st_if (et_not (et_b (x_m1 (folk_nm (m := "has_word") (by decide +kernel)) T.i_Folk (eb_v rfl (Rp.mono A.ex r_self)) (eb_v rfl (Rp.mono A.ex r_word))))) hb6 (fun eb6 H7 e => ?_) (fun eb6 H7 e => ?_)
    · subst eb6
      replace hm := itt hm
      replace A := A.grow e
      exact qx "NoName" (Option.some.inj hm).symm _ _ T.i_NoName (g0.trans A.ex)
    · subst eb6
      replace hm := itf hm
      replace A := A.grow e
      exact qn () (Option.some.inj hm).symm V.non _ (g0.trans A.ex) rfl
/-! Folk.in_it -/
def m_Folk_in_it_l2 (s27 : List (Str × Bool) × (List Str)) (x27 : Str) : Option (List (Str × Bool) × (List Str)) := ((o2 fNinD (some x27) (some (⟨s27.1⟩ : (Ds Bool))))).bind fun b34 => if b34 = true then (((some true)).bind fun y36 => ((some x27)).bind fun y37 => (fSput s27.1 y37 y36).bind fun x_seen => ((some x27)).bind fun y40 => (fApp s27.2 y40).bind fun x_waiting => some (x_seen, x_waiting)) else (some (s27.1, s27.2))
def m_Folk_in_it_c1 (z16_self : FolkS) (s16 : List (Str × Bool) × (List Str)) : Option Bool := (o1 fTru (some s16.2))
def m_Folk_in_it_l1 (z16_self : FolkS) (s16 : List (Str × Bool) × (List Str)) : Option (List (Str × Bool) × (List Str)) := (fPop s16.2).bind fun y25 => ((o3 fGet2 (((some z16_self)).map (fun x => (⟨x.rows⟩ : Ds (List Str)))) (some y25.1) (o1 szOk (some ([] : List Str))))).bind fun xs27 => (foldO m_Folk_in_it_l2 (s16.1, y25.2) xs27).bind fun w27 => some (w27.1, w27.2)
def m_Folk_in_it (x_self : FolkS) (x_word : Dy) : Option ((List Str) ⊕ String) := ((o2 m_Folk_need_word (some x_self) (some x_word))).bind fun o8 => onR o8 (fun _ => ((o1 yStr (some x_word))).bind fun y10 => ((some true)).bind fun y11 => ((o1 szOk (o2 fCons (o1 yStr (some x_word)) (some ([] : List Str))))).bind fun x_waiting => (whileO (m_Folk_in_it_c1 x_self) (m_Folk_in_it_l1 x_self) (400) ([(y10, y11)], x_waiting)).bind fun w16 => ((oComp (fun (y45 : Str) => (o2 fInD (some y45) (some (⟨w16.1⟩ : (Ds Bool))))) (fun (y45 : Str) => (some y45)) (((((some x_self)).map (fun x => (⟨x.names⟩ : Tl Str)))).map Tl.l))).bind fun y46 => some (Sum.inl y46)) (fun cx => some (Sum.inr cx))
set_option maxHeartbeats 4000000 in
theorem ok_Folk_in_it {P : Program} {w : World} {K : Fg} {mg : Str → Option Value} {base : Heap} (T : Txt K mg) : FnOk P w K mg base (L2.CX P w) 4 T.a_Folk_in_it T.d_Folk_in_it ["self", "word"] (PSy K (A2 K m_Folk_in_it)) := by
  refine T.F_Folk_in_it.okX sc_Folk_in_it (fun vs H Q E h => ?_) (fun cdv A0 outer s H vs Q E hr h => ?_)
  · obtain ⟨r, ⟨v_self, v_word, x_self, x_word, rfl, r_self, r_word, hm⟩, q⟩ := h
    rfl
  · obtain ⟨r_fn, ⟨v_self, v_word, x_self, x_word, rfl, r_self, r_word, hm⟩, qn, qx⟩ := h
    refine ⟨_, (pss_cons (ps_expr (pe_meth (pv 0) T.cl_Folk T.M_Folk_need_word (ok_Folk_need_word T) (hr.mono (by decide)) T.b_Folk_need_word .nil (passes_call (takes_of rfl rfl rfl rfl) (fun _ _ _ _ h => h)) (pa_cons (pv 1) pa_nil))) (pss_cons (ps_set (i := 2) sc_Folk_in_it.nd rfl (by first | exact Or.inl rfl | exact Or.inr rfl) (pe_disp (pps_cons (pv 1) pe_bl pps_nil) (by rfl) (by rfl) (fun z => by cases z) (by decide))) (pss_cons (ps_set (i := 3) sc_Folk_in_it.nd rfl (by first | exact Or.inl rfl | exact Or.inr rfl) (pe_lst (pa_cons (pv 1) pa_nil))) (pss_cons (ps_while (passes_of rfl) (pt_truth (pv 3) (by intro _; rfl)) (pss_cons (ps_asg (pe_bm0 PySem.F.plainAttrs_list PySem.F.slot_list_pop PySem.F.type_list_pop mt_pop (pv 3)) (pg_name (i := 4) sc_Folk_in_it.nd rfl (by first | exact Or.inl rfl | exact Or.inr rfl))) (pss_cons (ps_for (passes_of rfl) rfl (piL_K (K := K) rfl (pe_dget2 (hu_of hr) (pe_fld (pv 0) rfl) (pv 4) (pe_lst pa_nil) ⟨by rfl, by rfl, by rfl, by rfl⟩)) (pg_name (i := 5) sc_Folk_in_it.nd rfl (by first | exact Or.inl rfl | exact Or.inr rfl)) (pss_cons (ps_if (pt_cmp (pc_dnotin (hu_of hr) (pv 5) (pv 2))) (pss_cons (ps_dput (hu_of hr) (pv 2) (pv 5) pe_bl rfl) (pss_cons (ps_expr (pe_bm PySem.F.plainAttrs_list PySem.F.slot_list_append PySem.F.type_list_append mt_append (pv 3) (pa_cons (pv 5) pa_nil))) pss_nil)) pss_nil) pss_nil)) pss_nil))) (pss_cons (ps_ret (pe_lc (own := [("name", 6)]) (g := (gName 6)) rfl sc_Folk_in_it.nd (piT_K (K := K) rfl (pe_fld (pv 0) rfl)) (blkOk_by (N := ["self", "word", "seen", "waiting", "outer", "member", "name"]) (sc := defScope s_Folk_in_it) (by decide +kernel)) (fun _ _ _ _ _ => by exact (pg_name (i := 6) sc_Folk_in_it.nd rfl (by first | exact Or.inl rfl | exact Or.inr rfl))) (fun _ _ _ _ _ => by exact (pts_one (pt_cmp (pc_din (hu_of hr) (pv 6) (pv 2))))) (fun _ _ _ _ _ => by exact (pv 6)))) pss_nil))))), ?_⟩
    unfold m_Folk_in_it at hm
    obtain ⟨H0, e0, qn, qx⟩ := heapY qn qx
    obtain ⟨G, A, g0, r_self, r_word⟩ : exists G, At G H [] ∧ Gx H0 G ∧ rp K G v_self x_self ∧ rp K G v_word x_word := ⟨H, At.nil H, e0, r_self, r_word⟩
    clear e0
    obtain ⟨o8, ho8, hm⟩ := bnd hm
    refine st_dropR (er_m1 (folk_nm (m := "need_word") (by decide +kernel)) T.i_Folk (eb_v rfl (Rp.mono A.ex r_self)) (eb_v rfl (Rp.mono A.ex r_word))) ho8 (fun x_ H9 hx e => ?_) (fun cx H9 hx e => ?_)
    · subst hx
      replace hm := onRl hm
      replace A := A.grow e
      obtain ⟨y10, hy10, hm⟩ := bnd hm
      obtain ⟨y11, hy11, hm⟩ := bnd hm
      refine sf_sd1 (x_cast (fun h r => y_str h r) (eb_v rfl (Rp.mono A.ex r_word))) hy10 (eb_bl (K := K)) hy11 A fun p_seen kvs_seen G12 H13 g A al_seen => ?_
      replace r_self := Rp.mono g r_self
      replace r_word := Rp.mono g r_word
      replace g0 := g0.trans g
      obtain ⟨x_waiting, hx, hm⟩ := bnd hm
      refine sf_newM (x_lst (l_cons (x_cast (fun h r => y_str h r) (eb_v rfl (Rp.mono A.ex r_word))) (l_nil (K := K)))) hx A fun p_waiting vs_waiting G14 H15 g A al_waiting => ?_
      replace r_self := Rp.mono g r_self
      replace r_word := Rp.mono g r_word
      replace al_seen := Da'.mono (fun _ _ => Rp.mono g) al_seen
      replace g0 := g0.trans g
      obtain ⟨w16, hl16, hm⟩ := bnd hm
      have gL16 : Gx G14 G14 := Gx.rfl
      refine st_whileO hl16 (fun (s16 : List (Str × Bool) × (List Str)) (σ : L2.St) (H : Hp) => exists (Gi : Hp) (k_outer : Option V) (k_member : Option V) (kvs_seen : List (Key × V)) (vs_waiting : List V), σ = [some v_self, some v_word, some (.ref p_seen), some (.ref p_waiting), k_outer, k_member, none] ∧ Gx H0 Gi ∧ Gx G14 Gi ∧ At Gi H ([(p_waiting, HO.lst vs_waiting)] ++ ([(p_seen, HO.dK kvs_seen)] ++ ([] : Led))) ∧ Da' (rp K Gi) kvs_seen s16.1 ∧ Al (rp K Gi) vs_waiting s16.2) ?_ (fun s16 σ H18 hin => ?_) (fun s16 o16 σ H21 H20 hcm hf hin e => ?_) (fun σ H24 H23 hin e => ?_)
      · exact ⟨_, _, _, _, _, rfl, g0, gL16, A, al_seen, al_waiting⟩
      · obtain ⟨G17, k_outer, k_member, kvs_seen, vs_waiting, rfl, g0, gL16, A, al_seen, al_waiting⟩ := hin
        replace r_self := Rp.mono gL16 r_self
        replace r_word := Rp.mono gL16 r_word
        show EvT _ _ _ (m_Folk_in_it_c1 x_self s16)
        unfold m_Folk_in_it_c1
        exact (t_tru (eb_v rfl (mv_rp A (by simp) al_waiting)))
      · obtain ⟨G19, k_outer, k_member, kvs_seen, vs_waiting, rfl, g0, gL16, A, al_seen, al_waiting⟩ := hin
        replace A := A.grow e
        replace r_self := Rp.mono gL16 r_self
        replace r_word := Rp.mono gL16 r_word
        have hm := hf
        unfold m_Folk_in_it_l1 at hm
        obtain ⟨y25, hy25, hm⟩ := bnd hm
        obtain ⟨hy25a, hy25b⟩ := fPops hy25
        refine sf_pop rfl A al_waiting hy25a tl_n fun σ2 H26 A hb => ?_
        replace al_waiting := al_dl al_waiting
        rw [← hy25b] at al_waiting
        generalize vs_waiting.dropLast = vs_waiting at A al_waiting
        obtain ⟨v_outer, r_outer, rfl⟩ := hb
        obtain ⟨xs27, hx27, hm⟩ := bnd hm
        obtain ⟨w27, hl27, hm⟩ := bnd hm
        refine sf_for (io_list (eo_get2 (eo_att folk_members T.i_Folk T.cl_Folk T.na_Folk_members (eo_v rfl r_self)) (eb_v rfl (Rp.mono A.ex r_outer)) (eo_lst lo_nil))) hx27 A fun J27 S27 H28 g A wk27 => ?_
        replace r_self := Rp.mono g r_self
        replace r_word := Rp.mono g r_word
        replace al_seen := Da'.mono (fun _ _ => Rp.mono g) al_seen
        replace al_waiting := al_waiting.mono fun _ _ => Rp.mono g
        replace r_outer := Rp.mono g r_outer
        replace g0 := g0.trans g
        replace gL16 := gL16.trans g
        have gL27 : Gx S27 S27 := Gx.rfl
        refine foldO_run (G := S27) (L := ([(p_waiting, HO.lst vs_waiting)] ++ ([(p_seen, HO.dK kvs_seen)] ++ ([] : Led)))) wk27 hl27 tl_n (fun (s27 : List (Str × Bool) × (List Str)) (σ : L2.St) (Gi H : Hp) (Li : Led) => exists (k_member : Option V) (kvs_seen : List (Key × V)) (vs_waiting : List V), σ = [some v_self, some v_word, some (.ref p_seen), some (.ref p_waiting), some v_outer, k_member, none] ∧ Gx H0 Gi ∧ Gx G14 Gi ∧ Gx S27 Gi ∧ At Gi H Li ∧ Li = ([(p_waiting, HO.lst vs_waiting)] ++ ([(p_seen, HO.dK kvs_seen)] ++ ([] : Led))) ∧ Da' (rp K Gi) kvs_seen s27.1 ∧ Al (rp K Gi) vs_waiting s27.2) (fun s σ G H L h => ?_) ?_ (fun s27 x27 o27 σ G29 H30 L33 G31 H32 σ2 hxm hf hin g A hb => ?_) (fun σ G43 H44 L33 hin => ?_)
        · obtain ⟨k_member, kvs_seen, vs_waiting, rfl, g0, gL16, gL27, A, rfl, al_seen, al_waiting⟩ := h
          exact ⟨gL27, A⟩
        · exact ⟨_, _, _, rfl, g0, gL16, gL27, A, rfl, al_seen, al_waiting⟩
        · obtain ⟨k_member, kvs_seen, vs_waiting, rfl, g0, gL16, gL27, _, rfl, al_seen, al_waiting⟩ := hin
          obtain ⟨v_member, r_member, rfl⟩ := hb
          replace r_self := Rp.mono gL27 r_self
          replace r_word := Rp.mono gL27 r_word
          replace r_outer := Rp.mono gL27 r_outer
          replace r_self := Rp.mono g r_self
          replace r_word := Rp.mono g r_word
          replace al_seen := Da'.mono (fun _ _ => Rp.mono g) al_seen
          replace al_waiting := al_waiting.mono fun _ _ => Rp.mono g
          replace r_outer := Rp.mono g r_outer
          replace g0 := g0.trans g
          replace gL16 := gL16.trans g
          replace gL27 := gL27.trans g
          have hm := hf
          unfold m_Folk_in_it_l2 at hm
          obtain ⟨b34, hb34, hm⟩ := bnd hm
          refine st_if (et_test (x_ninD (eb_v rfl (Rp.mono A.ex r_member)) (eb_v rfl (sd_rp A (by simp) al_seen)))) hb34 (fun eb34 H35 e => ?_) (fun eb34 H35 e => ?_)
          · subst eb34
            replace hm := itt hm
            replace A := A.grow e
            replace A := At.b1 A
            obtain ⟨y36, hy36, hm⟩ := bnd hm
            obtain ⟨y37, hy37, hm⟩ := bnd hm
            obtain ⟨x_seen, hd, hm⟩ := bnd hm
            replace hd := fSputs hd
            refine sf_sput ((eb_bl (K := K))).own hy36 rfl (eb_v rfl (Rp.mono A.ex r_member)) hy37 A al_seen hd.2 fun kvs_seen G38 H39 g A al_seen => ?_
            rw [← hd.1] at al_seen
            replace r_self := Rp.mono g r_self
            replace r_word := Rp.mono g r_word
            replace al_waiting := al_waiting.mono fun _ _ => Rp.mono g
            replace r_outer := Rp.mono g r_outer
            replace r_member := Rp.mono g r_member
            replace g0 := g0.trans g
            replace gL16 := gL16.trans g
            replace gL27 := gL27.trans g
            replace A := At.b1 A
            obtain ⟨y40, hy40, hm⟩ := bnd hm
            obtain ⟨x_waiting, hd, hm⟩ := bnd hm
            replace hd := fApps hd
            refine sf_app rfl ((eb_v rfl (Rp.mono A.ex r_member))).own hy40 A (by rw [al_waiting.len]; exact hd.2) fun v_waiting G41 H42 g A r_y40 => ?_
            replace r_self := Rp.mono g r_self
            replace r_word := Rp.mono g r_word
            replace al_seen := Da'.mono (fun _ _ => Rp.mono g) al_seen
            replace al_waiting := al_waiting.mono fun _ _ => Rp.mono g
            replace r_outer := Rp.mono g r_outer
            replace r_member := Rp.mono g r_member
            replace g0 := g0.trans g
            replace gL16 := gL16.trans g
            replace gL27 := gL27.trans g
            replace al_waiting := al_waiting.app (Al.one r_y40)
            rw [← hd.1] at al_waiting
            generalize vs_waiting ++ [v_waiting] = vs_waiting at A al_waiting
            replace A := At.b1 A
            replace A := At.b1 A
            obtain rfl := Option.some.inj hm
            exact ⟨_, _, ⟨_, _, _, rfl, g0, gL16, gL27, A, rfl, al_seen, al_waiting⟩⟩
          · subst eb34
            replace hm := itf hm
            replace A := A.grow e
            replace A := At.b1 A
            replace A := At.b1 A
            obtain rfl := Option.some.inj hm
            exact ⟨_, _, ⟨_, _, _, rfl, g0, gL16, gL27, A, rfl, al_seen, al_waiting⟩⟩
        · obtain ⟨k_member, kvs_seen, vs_waiting, rfl, g0, gL16, gL27, A, rfl, al_seen, al_waiting⟩ := hin
          replace r_self := Rp.mono gL27 r_self
          replace r_word := Rp.mono gL27 r_word
          replace r_outer := Rp.mono gL27 r_outer
          replace A := At.b1 A
          replace A := At.b1 A
          obtain rfl := Option.some.inj hm
          exact ⟨_, _, _, _, _, rfl, g0, gL16, A, al_seen, al_waiting⟩
      · obtain ⟨G22, k_outer, k_member, kvs_seen, vs_waiting, rfl, g0, gL16, A, al_seen, al_waiting⟩ := hin
        replace A := A.grow e
        replace r_self := Rp.mono gL16 r_self
        replace r_word := Rp.mono gL16 r_word
        obtain ⟨y46, hy46, hm⟩ := bnd hm
        have er := Option.some.inj hm
        subst er
        exact sr_n (x_lc (i_tup (es_b (x_att folk_names T.i_Folk T.cl_Folk T.na_Folk_names (eb_v rfl (Rp.mono A.ex r_self))))) tg_n (bi_n (by decide)) (fun y45 σc Hc gh45 hb45 => by obtain ⟨c45v_name, c45r_name, rfl⟩ := hb45; exact (et_test (x_inD (eb_v rfl c45r_name) (eb_v rfl (Rp.mono gh45 (sd_rp A (by simp) al_seen)))))) (fun y45 σc Hc gh45 hb45 => by obtain ⟨c45v_name, c45r_name, rfl⟩ := hb45; exact (eb_v rfl c45r_name))) hy46 fun p ws H hp e h r => qn y46 rfl p ws H ((g0.trans A.ex).back hp) ((g0.trans A.ex).trans e) h r
    · subst hx
      replace hm := onRr hm
      replace A := A.grow e
      intro C iC
      exact qx cx (Option.some.inj hm).symm C _ iC (g0.trans A.ex)
/-! Folk.groups_of -/
def m_Folk_groups_of_l2 (z63_inner : Str) (s63 : List (Str × Bool) × (List Str)) (x63 : (Str × (List Str))) : Option (List (Str × Bool) × (List Str)) := ((oAnd (o2 fInL (some z63_inner) (some x63.2)) (o2 fNinD (some x63.1) (some (⟨s63.1⟩ : (Ds Bool)))))).bind fun b69 => if b69 = true then (((some true)).bind fun y71 => ((some x63.1)).bind fun y72 => (fSput s63.1 y72 y71).bind fun x_seen => ((some x63.1)).bind fun y75 => (fApp s63.2 y75).bind fun x_waiting => some (x_seen, x_waiting)) else (some (s63.1, s63.2))
def m_Folk_groups_of_c1 (z52_self : FolkS) (s52 : List (Str × Bool) × (List Str)) : Option Bool := (o1 fTru (some s52.2))
def m_Folk_groups_of_l1 (z52_self : FolkS) (s52 : List (Str × Bool) × (List Str)) : Option (List (Str × Bool) × (List Str)) := (fPop s52.2).bind fun y61 => (foldO (m_Folk_groups_of_l2 y61.1) (s52.1, y61.2) z52_self.rows).bind fun w63 => some (w63.1, w63.2)
def m_Folk_groups_of (x_self : FolkS) (x_word : Dy) : Option ((List Str) ⊕ String) := ((o2 m_Folk_need_word (some x_self) (some x_word))).bind fun o47 => onR o47 (fun _ => ((o1 szOk (o2 fCons (o1 yStr (some x_word)) (some ([] : List Str))))).bind fun x_waiting => (whileO (m_Folk_groups_of_c1 x_self) (m_Folk_groups_of_l1 x_self) (400) (([] : List (Str × Bool)), x_waiting)).bind fun w52 => ((o1 fSortS (o1 fListD (some (⟨w52.1⟩ : (Ds Bool)))))).bind fun y82 => some (Sum.inl y82)) (fun cx => some (Sum.inr cx))
set_option maxHeartbeats 4000000 in
theorem ok_Folk_groups_of {P : Program} {w : World} {K : Fg} {mg : Str → Option Value} {base : Heap} (T : Txt K mg) : FnOk P w K mg base (L2.CX P w) 4 T.a_Folk_groups_of T.d_Folk_groups_of ["self", "word"] (PSy K (A2 K m_Folk_groups_of)) := by
  refine T.F_Folk_groups_of.okX sc_Folk_groups_of (fun vs H Q E h => ?_) (fun cdv A0 outer s H vs Q E hr h => ?_)
  · obtain ⟨r, ⟨v_self, v_word, x_self, x_word, rfl, r_self, r_word, hm⟩, q⟩ := h
    rfl
  · obtain ⟨r_fn, ⟨v_self, v_word, x_self, x_word, rfl, r_self, r_word, hm⟩, qn, qx⟩ := h
    refine ⟨_, (pss_cons (ps_expr (pe_meth (pv 0) T.cl_Folk T.M_Folk_need_word (ok_Folk_need_word T) (hr.mono (by decide)) T.b_Folk_need_word .nil (passes_call (takes_of rfl rfl rfl rfl) (fun _ _ _ _ h => h)) (pa_cons (pv 1) pa_nil))) (pss_cons (ps_set (i := 2) sc_Folk_groups_of.nd rfl (by first | exact Or.inl rfl | exact Or.inr rfl) pe_dnewK) (pss_cons (ps_set (i := 3) sc_Folk_groups_of.nd rfl (by first | exact Or.inl rfl | exact Or.inr rfl) (pe_lst (pa_cons (pv 1) pa_nil))) (pss_cons (ps_while (passes_of rfl) (pt_truth (pv 3) (by intro _; rfl)) (pss_cons (ps_asg (pe_bm0 PySem.F.plainAttrs_list PySem.F.slot_list_pop PySem.F.type_list_pop mt_pop (pv 3)) (pg_name (i := 4) sc_Folk_groups_of.nd rfl (by first | exact Or.inl rfl | exact Or.inr rfl))) (pss_cons (ps_lock (ps_for (passes_of rfl) rfl (pi_items (pe_fld (pv 0) rfl)) (pg_tup rfl (pgs_cons (pg_name (i := 5) sc_Folk_groups_of.nd rfl (by first | exact Or.inl rfl | exact Or.inr rfl)) (pgs_cons (pg_name (i := 6) sc_Folk_groups_of.nd rfl (by first | exact Or.inl rfl | exact Or.inr rfl)) pgs_nil))) (pss_cons (ps_if (PW.pt (pw_and (pt_cmpR (opIn_K (K := K) rfl) (pv 4) (pv 6) (by rfl)) (pw_and1 (pt_cmp (pc_dnotin (hu_of hr) (pv 5) (pv 2)))))) (pss_cons (ps_dput (hu_of hr) (pv 2) (pv 5) pe_bl rfl) (pss_cons (ps_expr (pe_bm PySem.F.plainAttrs_list PySem.F.slot_list_append PySem.F.type_list_append mt_append (pv 3) (pa_cons (pv 5) pa_nil))) pss_nil)) pss_nil) pss_nil))) pss_nil))) (pss_cons (ps_ret (pe_callB (srtS_K (K := K) rfl) (by rfl) T.n_sorted bb_sorted (pa_cons (pe_callTy (call_listD rfl) (by rfl) T.n_list bb_list (pa_cons (pv 2) pa_nil)) pa_nil))) pss_nil))))), ?_⟩
    unfold m_Folk_groups_of at hm
    obtain ⟨H0, e0, qn, qx⟩ := heapY qn qx
    obtain ⟨G, A, g0, r_self, r_word⟩ : exists G, At G H [] ∧ Gx H0 G ∧ rp K G v_self x_self ∧ rp K G v_word x_word := ⟨H, At.nil H, e0, r_self, r_word⟩
    clear e0
    obtain ⟨o47, ho47, hm⟩ := bnd hm
    refine st_dropR (er_m1 (folk_nm (m := "need_word") (by decide +kernel)) T.i_Folk (eb_v rfl (Rp.mono A.ex r_self)) (eb_v rfl (Rp.mono A.ex r_word))) ho47 (fun x_ H48 hx e => ?_) (fun cx H48 hx e => ?_)
    · subst hx
      replace hm := onRl hm
      replace A := A.grow e
      refine sf_sdnew A fun p_seen H49 A => ?_
      obtain ⟨kvs_seen, hk_seen⟩ : exists z : List (Key × V), z = [] := ⟨_, rfl⟩
      rw [← hk_seen] at A
      have al_seen : Da' (rp K G) kvs_seen ([] : List (Str × Bool)) := by rw [hk_seen]; trivial
      clear hk_seen
      obtain ⟨x_waiting, hx, hm⟩ := bnd hm
      refine sf_newM (x_lst (l_cons (x_cast (fun h r => y_str h r) (eb_v rfl (Rp.mono A.ex r_word))) (l_nil (K := K)))) hx A fun p_waiting vs_waiting G50 H51 g A al_waiting => ?_
      replace r_self := Rp.mono g r_self
      replace r_word := Rp.mono g r_word
      replace al_seen := Da'.mono (fun _ _ => Rp.mono g) al_seen
      replace g0 := g0.trans g
      obtain ⟨w52, hl52, hm⟩ := bnd hm
      have gL52 : Gx G50 G50 := Gx.rfl
      refine st_whileO hl52 (fun (s52 : List (Str × Bool) × (List Str)) (σ : L2.St) (H : Hp) => exists (Gi : Hp) (k_inner : Option V) (k_group : Option V) (k_members : Option V) (kvs_seen : List (Key × V)) (vs_waiting : List V), σ = [some v_self, some v_word, some (.ref p_seen), some (.ref p_waiting), k_inner, k_group, k_members] ∧ Gx H0 Gi ∧ Gx G50 Gi ∧ At Gi H ([(p_waiting, HO.lst vs_waiting)] ++ ([(p_seen, HO.dK kvs_seen)] ++ ([] : Led))) ∧ Da' (rp K Gi) kvs_seen s52.1 ∧ Al (rp K Gi) vs_waiting s52.2) ?_ (fun s52 σ H54 hin => ?_) (fun s52 o52 σ H57 H56 hcm hf hin e => ?_) (fun σ H60 H59 hin e => ?_)
      · exact ⟨_, _, _, _, _, _, rfl, g0, gL52, A, al_seen, al_waiting⟩
      · obtain ⟨G53, k_inner, k_group, k_members, kvs_seen, vs_waiting, rfl, g0, gL52, A, al_seen, al_waiting⟩ := hin
        replace r_self := Rp.mono gL52 r_self
        replace r_word := Rp.mono gL52 r_word
        show EvT _ _ _ (m_Folk_groups_of_c1 x_self s52)
        unfold m_Folk_groups_of_c1
        exact (t_tru (eb_v rfl (mv_rp A (by simp) al_waiting)))
      · obtain ⟨G55, k_inner, k_group, k_members, kvs_seen, vs_waiting, rfl, g0, gL52, A, al_seen, al_waiting⟩ := hin
        replace A := A.grow e
        replace r_self := Rp.mono gL52 r_self
        replace r_word := Rp.mono gL52 r_word
        have hm := hf
        unfold m_Folk_groups_of_l1 at hm
        obtain ⟨y61, hy61, hm⟩ := bnd hm
        obtain ⟨hy61a, hy61b⟩ := fPops hy61
        refine sf_pop rfl A al_waiting hy61a tl_n fun σ2 H62 A hb => ?_
        replace al_waiting := al_dl al_waiting
        rw [← hy61b] at al_waiting
        generalize vs_waiting.dropLast = vs_waiting at A al_waiting
        obtain ⟨v_inner, r_inner, rfl⟩ := hb
        obtain ⟨w63, hl63, hm⟩ := bnd hm
        refine folk_items A r_self rfl T.i_Folk T.cl_Folk T.na_Folk_members fun d_63 kvs_63 od_63 hd63 AL wk63 => ?_
        replace al_seen := Da'.mono (fun _ _ => Im.im (lockG (od := od_63) hd63)) al_seen
        replace al_waiting := al_waiting.mono fun _ _ => Im.im (lockG (od := od_63) hd63)
        have rl63_inner := Im.im (lockG (od := od_63) hd63) r_inner
        obtain ⟨S63, eS63⟩ : exists S, S = upd G55 d_63 (.frz od_63 (.dK kvs_63)) := ⟨_, rfl⟩
        rw [← eS63] at AL wk63 al_seen al_waiting rl63_inner
        have gL63 : Gx S63 S63 := Gx.rfl
        refine foldO_run (G := S63) (L := ([(p_waiting, HO.lst vs_waiting)] ++ ([(p_seen, HO.dK kvs_seen)] ++ ([] : Led)))) wk63 hl63 (tl_p tl_n tl_n) (fun (s63 : List (Str × Bool) × (List Str)) (σ : L2.St) (Gi H : Hp) (Li : Led) => exists (k_group : Option V) (k_members : Option V) (kvs_seen : List (Key × V)) (vs_waiting : List V), σ = [some v_self, some v_word, some (.ref p_seen), some (.ref p_waiting), some v_inner, k_group, k_members] ∧ Gx S63 Gi ∧ At Gi H Li ∧ Li = ([(p_waiting, HO.lst vs_waiting)] ++ ([(p_seen, HO.dK kvs_seen)] ++ ([] : Led))) ∧ Da' (rp K Gi) kvs_seen s63.1 ∧ Al (rp K Gi) vs_waiting s63.2) (fun s σ G H L h => ?_) ?_ (fun s63 x63 o63 σ G64 H65 L68 G66 H67 σ2 hxm hf hin g A hb => ?_) (fun σ G80 H81 L68 hin => ?_)
        · obtain ⟨k_group, k_members, kvs_seen, vs_waiting, rfl, gL63, A, rfl, al_seen, al_waiting⟩ := h
          exact ⟨gL63, A⟩
        · have A := AL
          exact ⟨_, _, _, _, rfl, gL63, A, rfl, al_seen, al_waiting⟩
        · obtain ⟨k_group, k_members, kvs_seen, vs_waiting, rfl, gL63, _, rfl, al_seen, al_waiting⟩ := hin
          obtain ⟨_, ⟨v_group, r_group, rfl⟩, ⟨v_members, r_members, rfl⟩⟩ := hb
          replace rl63_inner := Rp.mono gL63 rl63_inner
          replace al_seen := Da'.mono (fun _ _ => Rp.mono g) al_seen
          replace al_waiting := al_waiting.mono fun _ _ => Rp.mono g
          replace rl63_inner := Rp.mono g rl63_inner
          replace gL63 := gL63.trans g
          have hm := hf
          unfold m_Folk_groups_of_l2 at hm
          obtain ⟨b69, hb69, hm⟩ := bnd hm
          refine st_if (et_and (et_test (x_inL (eb_v rfl (Rp.mono A.ex rl63_inner)) (eb_v rfl (Rp.mono A.ex r_members)))) (et_test (x_ninD (eb_v rfl (Rp.mono A.ex r_group)) (eb_v rfl (sd_rp A (by simp) al_seen))))) hb69 (fun eb69 H70 e => ?_) (fun eb69 H70 e => ?_)
          · subst eb69
            replace hm := itt hm
            replace A := A.grow e
            replace A := At.b1 A
            obtain ⟨y71, hy71, hm⟩ := bnd hm
            obtain ⟨y72, hy72, hm⟩ := bnd hm
            obtain ⟨x_seen, hd, hm⟩ := bnd hm
            replace hd := fSputs hd
            refine sf_sput ((eb_bl (K := K))).own hy71 rfl (eb_v rfl (Rp.mono A.ex r_group)) hy72 A al_seen hd.2 fun kvs_seen G73 H74 g A al_seen => ?_
            rw [← hd.1] at al_seen
            replace al_waiting := al_waiting.mono fun _ _ => Rp.mono g
            replace rl63_inner := Rp.mono g rl63_inner
            replace r_group := Rp.mono g r_group
            replace r_members := Rp.mono g r_members
            replace gL63 := gL63.trans g
            replace A := At.b1 A
            obtain ⟨y75, hy75, hm⟩ := bnd hm
            obtain ⟨x_waiting, hd, hm⟩ := bnd hm
            replace hd := fApps hd
            refine sf_app rfl ((eb_v rfl (Rp.mono A.ex r_group))).own hy75 A (by rw [al_waiting.len]; exact hd.2) fun v_waiting G76 H77 g A r_y75 => ?_
            replace al_seen := Da'.mono (fun _ _ => Rp.mono g) al_seen
            replace al_waiting := al_waiting.mono fun _ _ => Rp.mono g
            replace rl63_inner := Rp.mono g rl63_inner
            replace r_group := Rp.mono g r_group
            replace r_members := Rp.mono g r_members
            replace gL63 := gL63.trans g
            replace al_waiting := al_waiting.app (Al.one r_y75)
            rw [← hd.1] at al_waiting
            generalize vs_waiting ++ [v_waiting] = vs_waiting at A al_waiting
            replace A := At.b1 A
            replace A := At.b1 A
            obtain rfl := Option.some.inj hm
            exact ⟨_, _, ⟨_, _, _, _, rfl, gL63, A, rfl, al_seen, al_waiting⟩⟩
          · subst eb69
            replace hm := itf hm
            replace A := A.grow e
            replace A := At.b1 A
            replace A := At.b1 A
            obtain rfl := Option.some.inj hm
            exact ⟨_, _, ⟨_, _, _, _, rfl, gL63, A, rfl, al_seen, al_waiting⟩⟩
        · obtain ⟨k_group, k_members, kvs_seen, vs_waiting, rfl, gL63, A, rfl, al_seen, al_waiting⟩ := hin
          rw [eS63] at gL63
          obtain ⟨A, g, hfz, tx⟩ := unlk hd63 gL63 A
          refine ⟨hfz, ?_⟩
          clear gL63
          generalize upd G80 d_63 (.dK kvs_63) = G78 at A g tx
          generalize upd H81 d_63 (.dK kvs_63) = H79 at A ⊢
          replace al_seen := Da'.mono (fun _ _ => Im.im tx) al_seen
          replace al_waiting := al_waiting.mono fun _ _ => Im.im tx
          replace r_self := Rp.mono g r_self
          replace r_word := Rp.mono g r_word
          replace r_inner := Rp.mono g r_inner
          replace g0 := g0.trans g
          replace gL52 := gL52.trans g
          replace A := At.b1 A
          replace A := At.b1 A
          obtain rfl := Option.some.inj hm
          exact ⟨_, _, _, _, _, _, rfl, g0, gL52, A, al_seen, al_waiting⟩
      · obtain ⟨G58, k_inner, k_group, k_members, kvs_seen, vs_waiting, rfl, g0, gL52, A, al_seen, al_waiting⟩ := hin
        replace A := A.grow e
        replace r_self := Rp.mono gL52 r_self
        replace r_word := Rp.mono gL52 r_word
        obtain ⟨y82, hy82, hm⟩ := bnd hm
        have er := Option.some.inj hm
        subst er
        exact sr_n (x_sortS ((x_listD (eb_v rfl (sd_rp A (by simp) al_seen)))).b) hy82 fun p ws H hp e h r => qn y82 rfl p ws H ((g0.trans A.ex).back hp) ((g0.trans A.ex).trans e) h r
    · subst hx
      replace hm := onRr hm
      replace A := A.grow e
      intro C iC
      exact qx cx (Option.some.inj hm).symm C _ iC (g0.trans A.ex)
/-! _law_cell_at -/
def m_law_cell_at (x_law_script : Scr) (x_law_k : Int) : Option Int := ((o2 fLt (some x_law_k) (o1 fLenS (some x_law_script)))).bind fun b83 => if b83 = true then (o2 fIxScr (some x_law_script) (some x_law_k)) else (some (0 : Int))
set_option maxHeartbeats 4000000 in
theorem ok_law_cell_at {P : Program} {w : World} {K : Fg} {mg : Str → Option Value} {base : Heap} (T : Txt K mg) : FnOk P w K mg base CX0 1 T.a_law_cell_at T.d_law_cell_at ["_law_script", "_law_k"] (PSb K (A2 K m_law_cell_at)) := by
  refine T.F_law_cell_at.ok sc_law_cell_at (fun vs H Q E h => ?_) (fun cdv A0 outer s H vs Q E hr h => ?_)
  · obtain ⟨r, ⟨v_law_script, v_law_k, x_law_script, x_law_k, rfl, r_law_script, r_law_k, hm⟩, q⟩ := h
    rfl
  · obtain ⟨r_fn, ⟨v_law_script, v_law_k, x_law_script, x_law_k, rfl, r_law_script, r_law_k, hm⟩, q⟩ := h
    refine ⟨_, (pss_cons (ps_if (pt_cmpR op_lt (pv 1) (pe_callB (len_K (K := K) rfl) (by rfl) T.n_len bb_len (pa_cons (pv 0) pa_nil)) (nomark _)) (pss_cons (ps_ret (pe_ix (ixL_K (K := K) rfl) (pv 0) (pv 1) (fun _ _ => rfl))) pss_nil) pss_nil) (pss_cons (ps_ret pe_int) pss_nil)), ?_⟩
    unfold m_law_cell_at at hm
    obtain ⟨H0, e0, q⟩ := heapB q
    obtain ⟨G, A, g0, r_law_script, r_law_k⟩ : exists G, At G H [] ∧ Gx H0 G ∧ rp K G v_law_script x_law_script ∧ rp K G v_law_k x_law_k := ⟨H, At.nil H, e0, r_law_script, r_law_k⟩
    clear e0
    obtain ⟨b83, hb83, hm⟩ := bnd hm
    refine st_if (et_test (x_lt (eb_v rfl (Rp.mono A.ex r_law_k)) (x_lenS (eb_v rfl (Rp.mono A.ex r_law_script))))) hb83 (fun eb83 H84 e => ?_) (fun eb83 H84 e => ?_)
    · subst eb83
      replace hm := itt hm
      replace A := A.grow e
      exact sr_b (x_ixScr (eb_v rfl (Rp.mono A.ex r_law_script)) (eb_v rfl (Rp.mono A.ex r_law_k))) hm fun w H e r => q w H ((g0.trans A.ex).trans e) r
    · subst eb83
      replace hm := itf hm
      replace A := A.grow e
      exact sr_b (u := fun _ _ _ => True) (σ := []) (eb_int (K := K)) hm fun w H e r => q w H ((g0.trans A.ex).trans e) r
/-! _law_mixed -/
def m_law_mixed (x_law_cell : Int) (x_law_k : Int) : Option Int := ((o2 fMod (o2 fAdd (o2 fAdd (o2 fMul (some x_law_cell) (some (48271 : Int))) (o2 fMul (some (7919 : Int)) (some x_law_k))) (some (11 : Int))) (some (1000003 : Int)))).bind fun x_law_number => (o2 fMod (o2 fMul (o2 fMod (o2 fMul (some x_law_number) (some x_law_number)) (some (1000003 : Int))) (some x_law_number)) (some (1000003 : Int)))
set_option maxHeartbeats 4000000 in
theorem ok_law_mixed {P : Program} {w : World} {K : Fg} {mg : Str → Option Value} {base : Heap} (T : Txt K mg) : FnOk P w K mg base CX0 1 T.a_law_mixed T.d_law_mixed ["_law_cell", "_law_k"] (PSb K (A2 K m_law_mixed)) := by
  refine T.F_law_mixed.ok sc_law_mixed (fun vs H Q E h => ?_) (fun cdv A0 outer s H vs Q E hr h => ?_)
  · obtain ⟨r, ⟨v_law_cell, v_law_k, x_law_cell, x_law_k, rfl, r_law_cell, r_law_k, hm⟩, q⟩ := h
    rfl
  · obtain ⟨r_fn, ⟨v_law_cell, v_law_k, x_law_cell, x_law_k, rfl, r_law_cell, r_law_k, hm⟩, q⟩ := h
    refine ⟨_, (pss_cons (ps_set (i := 2) sc_law_mixed.nd rfl (by first | exact Or.inl rfl | exact Or.inr rfl) (pe_op op_mod (pe_op op_add (pe_op op_add (pe_op op_mul (pv 0) pe_int) (pe_op op_mul pe_int (pv 1))) pe_int) pe_int)) (pss_cons (ps_ret (pe_op op_mod (pe_op op_mul (pe_op op_mod (pe_op op_mul (pv 2) (pv 2)) pe_int) (pv 2)) pe_int)) pss_nil)), ?_⟩
    unfold m_law_mixed at hm
    obtain ⟨H0, e0, q⟩ := heapB q
    obtain ⟨G, A, g0, r_law_cell, r_law_k⟩ : exists G, At G H [] ∧ Gx H0 G ∧ rp K G v_law_cell x_law_cell ∧ rp K G v_law_k x_law_k := ⟨H, At.nil H, e0, r_law_cell, r_law_k⟩
    clear e0
    obtain ⟨x_law_number, hx, hm⟩ := bnd hm
    refine sf_asg ((x_mod (x_add (x_add (x_mul (eb_v rfl (Rp.mono A.ex r_law_cell)) (eb_int (K := K))) (x_mul (eb_int (K := K)) (eb_v rfl (Rp.mono A.ex r_law_k)))) (eb_int (K := K))) (eb_int (K := K)))).own hx A fun v_law_number G85 H86 g A r_law_number => ?_
    replace r_law_cell := Rp.mono g r_law_cell
    replace r_law_k := Rp.mono g r_law_k
    replace g0 := g0.trans g
    exact sr_b (x_mod (x_mul (x_mod (x_mul (eb_v rfl (Rp.mono A.ex r_law_number)) (eb_v rfl (Rp.mono A.ex r_law_number))) (eb_int (K := K))) (eb_v rfl (Rp.mono A.ex r_law_number))) (eb_int (K := K))) hm fun w H e r => q w H ((g0.trans A.ex).trans e) r
/-! _law_names -/
def m_law_names_l1 (z99_law_cell : Int) (z99_law_letters : Str) (z99_law_row : (List Str)) (z99_law_at : Int) (z99_law_long : Int) (z99_law_step : Int) (s99 : (List Str)) (x99 : Int) : Option (List Str) := ((o2 fIxS (some z99_law_letters) (o2 fMod (o2 fAdd (o2 m_law_mixed (some z99_law_cell) (some (11 : Int))) (o2 fMul (some z99_law_step) (some x99))) (some (26 : Int))))).bind fun x_law_sign => ((o2 fCat (o2 fCat (o3 fCut (some z99_law_row) (some none) (((some z99_law_at)).map some)) (o1 szOk (o2 fCons (some x_law_sign) (some ([] : List Str))))) (o3 fCut (some z99_law_row) (((o2 fAdd (some z99_law_at) (some (1 : Int)))).map some) (((some z99_law_long)).map some)))).bind fun x_law_word => ((o2 fEq (o2 fMod (o2 m_law_mixed (some z99_law_cell) (some (12 : Int))) (some (4 : Int))) (some (1 : Int)))).bind fun b110 => if b110 = true then (((oIf (o2 fLt (some x99) (some (8 : Int))) (o3 fCut (some z99_law_row) (some none) (((o2 fAdd (some (1 : Int)) (some x99))).map some)) (o1 szOk (o2 fCons (o2 fIxS (some z99_law_letters) (o2 fMod (o2 fAdd (o2 fSIndex (some z99_law_letters) (o2 ix (some z99_law_row) (some (0 : Int)))) (some (1 : Int))) (some (26 : Int)))) (some ([] : List Str)))))).bind fun x_law_word => ((o2 fJoin (some (Str.ofString "")) (some x_law_word))).bind fun y114 => (fApp s99 y114).bind fun x_law_found => some x_law_found) else (((o2 fJoin (some (Str.ofString "")) (some x_law_word))).bind fun y117 => (fApp s99 y117).bind fun x_law_found => some x_law_found)
def m_law_names (x_law_cell : Int) (x_law_many : Int) : Option (List Str) := ((some (Str.ofString "abcdefghijklmnopqrstuvwxyz"))).bind fun x_law_letters => ((oComp (fun (y89 : Int) => (some true)) (fun (y89 : Int) => (o2 fIxS (some x_law_letters) (o2 fMod (o2 m_law_mixed (some x_law_cell) (some y89)) (some (26 : Int))))) (o1 fRng1 (some (8 : Int))))).bind fun x_law_row => ((o2 fMod (o2 m_law_mixed (some x_law_cell) (some (8 : Int))) (some (8 : Int)))).bind fun x_law_at => ((o2 fAdd (o2 fAdd (some x_law_at) (some (1 : Int))) (o2 fMod (o2 m_law_mixed (some x_law_cell) (some (9 : Int))) (o2 fSub (some (8 : Int)) (some x_law_at))))).bind fun x_law_long => ((o2 ix (o1 szOk (o2 fCons (some (1 : Int)) (o2 fCons (some (3 : Int)) (o2 fCons (some (5 : Int)) (o2 fCons (some (7 : Int)) (o2 fCons (some (9 : Int)) (o2 fCons (some (11 : Int)) (some ([] : List Int))))))))) (o2 fMod (o2 m_law_mixed (some x_law_cell) (some (10 : Int))) (some (6 : Int))))).bind fun x_law_step => ((o1 fRng1 (some x_law_many))).bind fun xs99 => (foldO (m_law_names_l1 x_law_cell x_law_letters x_law_row x_law_at x_law_long x_law_step) ([] : List Str) xs99).bind fun w99 => some w99
set_option maxHeartbeats 4000000 in
theorem ok_law_names {P : Program} {w : World} {K : Fg} {mg : Str → Option Value} {base : Heap} (T : Txt K mg) : FnOk P w K mg base CX0 2 T.a_law_names T.d_law_names ["_law_cell", "_law_many"] (PSn K (A2 K m_law_names)) := by
  refine T.F_law_names.ok sc_law_names (fun vs H Q E h => ?_) (fun cdv A0 outer s H vs Q E hr h => ?_)
  · obtain ⟨r, ⟨v_law_cell, v_law_many, x_law_cell, x_law_many, rfl, r_law_cell, r_law_many, hm⟩, q⟩ := h
    rfl
  · obtain ⟨r_fn, ⟨v_law_cell, v_law_many, x_law_cell, x_law_many, rfl, r_law_cell, r_law_many, hm⟩, q⟩ := h
    refine ⟨_, (pss_cons (ps_set (i := 2) sc_law_names.nd rfl (by first | exact Or.inl rfl | exact Or.inr rfl) pe_str) (pss_cons (ps_setLc (i := 3) (own := [("_law_j", 11)]) (g := (gName 11)) rfl sc_law_names.nd rfl rfl (sw_true rfl rfl rfl (by decide +kernel)) (pi_range1 (by rfl) T.n_range (pa_cons pe_int pa_nil)) (blkOk_by (N := ["_law_cell", "_law_many", "_law_letters", "_law_row", "_law_at", "_law_long", "_law_step", "_law_found", "_law_k", "_law_sign", "_law_word", "_law_j"]) (sc := defScope s_law_names) (by decide +kernel)) (fun _ _ _ _ _ => by exact (pg_name (i := 11) sc_law_names.nd rfl (by first | exact Or.inl rfl | exact Or.inr rfl))) (fun _ _ _ _ _ => by exact pts_nil) (fun _ _ _ _ _ => by exact (pe_ix ix_str (pv 2) (pe_op op_mod (pe_call (ok_law_mixed T) (hr.mono (by decide)) (by rfl) T.g_law_mixed T.F_law_mixed.kp T.b_law_mixed .nil pass0 (pa_cons (pv 0) (pa_cons (pv 11) pa_nil))) pe_int) (fun _ _ => rfl)))) (pss_cons (ps_set (i := 4) sc_law_names.nd rfl (by first | exact Or.inl rfl | exact Or.inr rfl) (pe_op op_mod (pe_call (ok_law_mixed T) (hr.mono (by decide)) (by rfl) T.g_law_mixed T.F_law_mixed.kp T.b_law_mixed .nil pass0 (pa_cons (pv 0) (pa_cons pe_int pa_nil))) pe_int)) (pss_cons (ps_set (i := 5) sc_law_names.nd rfl (by first | exact Or.inl rfl | exact Or.inr rfl) (pe_op op_add (pe_op op_add (pv 4) pe_int) (pe_op op_mod (pe_call (ok_law_mixed T) (hr.mono (by decide)) (by rfl) T.g_law_mixed T.F_law_mixed.kp T.b_law_mixed .nil pass0 (pa_cons (pv 0) (pa_cons pe_int pa_nil))) (pe_op op_sub pe_int (pv 4))))) (pss_cons (ps_set (i := 6) sc_law_names.nd rfl (by first | exact Or.inl rfl | exact Or.inr rfl) (pe_ix (ixL_K (K := K) rfl) (pe_lst (pa_cons pe_int (pa_cons pe_int (pa_cons pe_int (pa_cons pe_int (pa_cons pe_int (pa_cons pe_int pa_nil))))))) (pe_op op_mod (pe_call (ok_law_mixed T) (hr.mono (by decide)) (by rfl) T.g_law_mixed T.F_law_mixed.kp T.b_law_mixed .nil pass0 (pa_cons (pv 0) (pa_cons pe_int pa_nil))) pe_int) (fun _ _ => rfl))) (pss_cons (ps_set (i := 7) sc_law_names.nd rfl (by first | exact Or.inl rfl | exact Or.inr rfl) (pe_lst pa_nil)) (pss_cons (ps_for PassesOwn.never rfl (pi_range1 (by rfl) T.n_range (pa_cons (pv 1) pa_nil)) (pg_name (i := 8) sc_law_names.nd rfl (by first | exact Or.inl rfl | exact Or.inr rfl)) (pss_cons (ps_set (i := 9) sc_law_names.nd rfl (by first | exact Or.inl rfl | exact Or.inr rfl) (pe_ix ix_str (pv 2) (pe_op op_mod (pe_op op_add (pe_call (ok_law_mixed T) (hr.mono (by decide)) (by rfl) T.g_law_mixed T.F_law_mixed.kp T.b_law_mixed .nil pass0 (pa_cons (pv 0) (pa_cons pe_int pa_nil))) (pe_op op_mul (pv 6) (pv 8))) pe_int) (fun _ _ => rfl))) (pss_cons (ps_set (i := 10) sc_law_names.nd rfl (by first | exact Or.inl rfl | exact Or.inr rfl) (pe_op op_cat (pe_op op_cat (pe_slice (slL_K (K := K) rfl) (pv 3) po_none (po_some (pv 4))) (pe_lst (pa_cons (pv 9) pa_nil))) (pe_slice (slL_K (K := K) rfl) (pv 3) (po_some (pe_op op_add (pv 4) pe_int)) (po_some (pv 5))))) (pss_cons (ps_if (pt_cmpR (opEq_K (K := K) rfl hr.units) (pe_op op_mod (pe_call (ok_law_mixed T) (hr.mono (by decide)) (by rfl) T.g_law_mixed T.F_law_mixed.kp T.b_law_mixed .nil pass0 (pa_cons (pv 0) (pa_cons pe_int pa_nil))) pe_int) pe_int (nomark _)) (pss_cons (ps_set (i := 10) sc_law_names.nd rfl (by first | exact Or.inl rfl | exact Or.inr rfl) (pe_ifExp (pt_cmpR op_lt (pv 8) pe_int (nomark _)) (pe_slice (slL_K (K := K) rfl) (pv 3) po_none (po_some (pe_op op_add pe_int (pv 8)))) (pe_lst (pa_cons (pe_ix ix_str (pv 2) (pe_op op_mod (pe_op op_add (pe_bm PySem.F.plainAttrs_str PySem.F.slot_str_index PySem.F.type_str_index mt_sindex (pv 2) (pa_cons (pe_ix (ixL_K (K := K) rfl) (pv 3) pe_int (fun _ _ => rfl)) pa_nil)) pe_int) pe_int) (fun _ _ => rfl)) pa_nil)))) pss_nil) pss_nil) (pss_cons (ps_expr (pe_bm PySem.F.plainAttrs_list PySem.F.slot_list_append PySem.F.type_list_append mt_append (pv 7) (pa_cons (pe_bm PySem.F.plainAttrs_str PySem.F.slot_str_join PySem.F.type_str_join (mtjoin_K (K := K) rfl) pe_str (pa_cons (pv 10) pa_nil)) pa_nil))) pss_nil))))) (pss_cons (ps_ret (pv 7)) pss_nil)))))))), ?_⟩
    unfold m_law_names at hm
    obtain ⟨H0, e0, q⟩ := heapN q
    obtain ⟨G, A, g0, r_law_cell, r_law_many⟩ : exists G, At G H [] ∧ Gx H0 G ∧ rp K G v_law_cell x_law_cell ∧ rp K G v_law_many x_law_many := ⟨H, At.nil H, e0, r_law_cell, r_law_many⟩
    clear e0
    obtain ⟨x_law_letters, hx, hm⟩ := bnd hm
    refine sf_asg ((eb_str (K := K))).own hx A fun v_law_letters G87 H88 g A r_law_letters => ?_
    replace r_law_cell := Rp.mono g r_law_cell
    replace r_law_many := Rp.mono g r_law_many
    replace g0 := g0.trans g
    obtain ⟨x_law_row, hx, hm⟩ := bnd hm
    refine sf_asg ((x_lc (i_rng1 (eb_int (K := K))) tg_n (bi_n (by decide)) (fun y89 σc Hc gh89 hb89 => by obtain ⟨c89v_law_j, c89r_law_j, rfl⟩ := hb89; exact t_yes) (fun y89 σc Hc gh89 hb89 => by obtain ⟨c89v_law_j, c89r_law_j, rfl⟩ := hb89; exact (x_ixS (eb_v rfl (Rp.mono gh89 (Rp.mono A.ex r_law_letters))) (x_mod (eb_call (em2 (eb_v rfl (Rp.mono gh89 (Rp.mono A.ex r_law_cell))) (eb_v rfl c89r_law_j))) (eb_int (K := K))))))).own hx A fun v_law_row G90 H91 g A r_law_row => ?_
    replace r_law_cell := Rp.mono g r_law_cell
    replace r_law_many := Rp.mono g r_law_many
    replace r_law_letters := Rp.mono g r_law_letters
    replace g0 := g0.trans g
    obtain ⟨x_law_at, hx, hm⟩ := bnd hm
    refine sf_asg ((x_mod (eb_call (em2 (eb_v rfl (Rp.mono A.ex r_law_cell)) (eb_int (K := K)))) (eb_int (K := K)))).own hx A fun v_law_at G92 H93 g A r_law_at => ?_
    replace r_law_cell := Rp.mono g r_law_cell
    replace r_law_many := Rp.mono g r_law_many
    replace r_law_letters := Rp.mono g r_law_letters
    replace r_law_row := Rp.mono g r_law_row
    replace g0 := g0.trans g
    obtain ⟨x_law_long, hx, hm⟩ := bnd hm
    refine sf_asg ((x_add (x_add (eb_v rfl (Rp.mono A.ex r_law_at)) (eb_int (K := K))) (x_mod (eb_call (em2 (eb_v rfl (Rp.mono A.ex r_law_cell)) (eb_int (K := K)))) (x_sub (eb_int (K := K)) (eb_v rfl (Rp.mono A.ex r_law_at)))))).own hx A fun v_law_long G94 H95 g A r_law_long => ?_
    replace r_law_cell := Rp.mono g r_law_cell
    replace r_law_many := Rp.mono g r_law_many
    replace r_law_letters := Rp.mono g r_law_letters
    replace r_law_row := Rp.mono g r_law_row
    replace r_law_at := Rp.mono g r_law_at
    replace g0 := g0.trans g
    obtain ⟨x_law_step, hx, hm⟩ := bnd hm
    refine sf_asg ((x_ixL ((x_lst (l_cons (eb_int (K := K)) (l_cons (eb_int (K := K)) (l_cons (eb_int (K := K)) (l_cons (eb_int (K := K)) (l_cons (eb_int (K := K)) (l_cons (eb_int (K := K)) (l_nil (K := K)))))))))).b (x_mod (eb_call (em2 (eb_v rfl (Rp.mono A.ex r_law_cell)) (eb_int (K := K)))) (eb_int (K := K))))).own hx A fun v_law_step G96 H97 g A r_law_step => ?_
    replace r_law_cell := Rp.mono g r_law_cell
    replace r_law_many := Rp.mono g r_law_many
    replace r_law_letters := Rp.mono g r_law_letters
    replace r_law_row := Rp.mono g r_law_row
    replace r_law_at := Rp.mono g r_law_at
    replace r_law_long := Rp.mono g r_law_long
    replace g0 := g0.trans g
    refine sf_new A fun p_law_found H98 A => ?_
    obtain ⟨vs_law_found, hk_law_found⟩ : exists z : List V, z = [] := ⟨_, rfl⟩
    rw [← hk_law_found] at A
    have al_law_found : Al (rp K G96) vs_law_found ([] : List Str) := by rw [hk_law_found]; trivial
    clear hk_law_found
    obtain ⟨xs99, hx99, hm⟩ := bnd hm
    obtain ⟨w99, hl99, hm⟩ := bnd hm
    refine sf_for (io_rng1 (eb_v rfl (Rp.mono A.ex r_law_many))) hx99 A fun J99 S99 H100 g A wk99 => ?_
    replace r_law_cell := Rp.mono g r_law_cell
    replace r_law_many := Rp.mono g r_law_many
    replace r_law_letters := Rp.mono g r_law_letters
    replace r_law_row := Rp.mono g r_law_row
    replace r_law_at := Rp.mono g r_law_at
    replace r_law_long := Rp.mono g r_law_long
    replace r_law_step := Rp.mono g r_law_step
    replace al_law_found := al_law_found.mono fun _ _ => Rp.mono g
    replace g0 := g0.trans g
    have gL99 : Gx S99 S99 := Gx.rfl
    refine foldO_run (G := S99) (L := ([(p_law_found, HO.lst vs_law_found)] ++ ([] : Led))) wk99 hl99 tl_n (fun (s99 : (List Str)) (σ : L2.St) (Gi H : Hp) (Li : Led) => exists (k_law_k : Option V) (k_law_sign : Option V) (k_law_word : Option V) (vs_law_found : List V), σ = [some v_law_cell, some v_law_many, some v_law_letters, some v_law_row, some v_law_at, some v_law_long, some v_law_step, some (.ref p_law_found), k_law_k, k_law_sign, k_law_word, none] ∧ Gx H0 Gi ∧ Gx S99 Gi ∧ At Gi H Li ∧ Li = ([(p_law_found, HO.lst vs_law_found)] ++ ([] : Led)) ∧ Al (rp K Gi) vs_law_found s99) (fun s σ G H L h => ?_) ?_ (fun s99 x99 o99 σ G101 H102 L105 G103 H104 σ2 hxm hf hin g A hb => ?_) (fun σ G120 H121 L105 hin => ?_)
    · obtain ⟨k_law_k, k_law_sign, k_law_word, vs_law_found, rfl, g0, gL99, A, rfl, al_law_found⟩ := h
      exact ⟨gL99, A⟩
    · exact ⟨_, _, _, _, rfl, g0, gL99, A, rfl, al_law_found⟩
    · obtain ⟨k_law_k, k_law_sign, k_law_word, vs_law_found, rfl, g0, gL99, _, rfl, al_law_found⟩ := hin
      obtain ⟨v_law_k, r_law_k, rfl⟩ := hb
      replace r_law_cell := Rp.mono gL99 r_law_cell
      replace r_law_many := Rp.mono gL99 r_law_many
      replace r_law_letters := Rp.mono gL99 r_law_letters
      replace r_law_row := Rp.mono gL99 r_law_row
      replace r_law_at := Rp.mono gL99 r_law_at
      replace r_law_long := Rp.mono gL99 r_law_long
      replace r_law_step := Rp.mono gL99 r_law_step
      replace r_law_cell := Rp.mono g r_law_cell
      replace r_law_many := Rp.mono g r_law_many
      replace r_law_letters := Rp.mono g r_law_letters
      replace r_law_row := Rp.mono g r_law_row
      replace r_law_at := Rp.mono g r_law_at
      replace r_law_long := Rp.mono g r_law_long
      replace r_law_step := Rp.mono g r_law_step
      replace al_law_found := al_law_found.mono fun _ _ => Rp.mono g
      replace g0 := g0.trans g
      replace gL99 := gL99.trans g
      have hm := hf
      unfold m_law_names_l1 at hm
      obtain ⟨x_law_sign, hx, hm⟩ := bnd hm
      refine sf_asg ((x_ixS (eb_v rfl (Rp.mono A.ex r_law_letters)) (x_mod (x_add (eb_call (em2 (eb_v rfl (Rp.mono A.ex r_law_cell)) (eb_int (K := K)))) (x_mul (eb_v rfl (Rp.mono A.ex r_law_step)) (eb_v rfl (Rp.mono A.ex r_law_k)))) (eb_int (K := K))))).own hx A fun v_law_sign G106 H107 g A r_law_sign => ?_
      replace r_law_cell := Rp.mono g r_law_cell
      replace r_law_many := Rp.mono g r_law_many
      replace r_law_letters := Rp.mono g r_law_letters
      replace r_law_row := Rp.mono g r_law_row
      replace r_law_at := Rp.mono g r_law_at
      replace r_law_long := Rp.mono g r_law_long
      replace r_law_step := Rp.mono g r_law_step
      replace al_law_found := al_law_found.mono fun _ _ => Rp.mono g
      replace r_law_k := Rp.mono g r_law_k
      replace g0 := g0.trans g
      replace gL99 := gL99.trans g
      obtain ⟨x_law_word, hx, hm⟩ := bnd hm
      refine sf_asg (eo_cat (eo_cat ((x_cut (eb_v rfl (Rp.mono A.ex r_law_row)) ep_none (ep_some (eb_v rfl (Rp.mono A.ex r_law_at))))).own (eo_lst (lo_cons ((eb_v rfl (Rp.mono A.ex r_law_sign))).own lo_nil))) ((x_cut (eb_v rfl (Rp.mono A.ex r_law_row)) (ep_some (x_add (eb_v rfl (Rp.mono A.ex r_law_at)) (eb_int (K := K)))) (ep_some (eb_v rfl (Rp.mono A.ex r_law_long))))).own) hx A fun v_law_word G108 H109 g A r_law_word => ?_
      replace r_law_cell := Rp.mono g r_law_cell
      replace r_law_many := Rp.mono g r_law_many
      replace r_law_letters := Rp.mono g r_law_letters
      replace r_law_row := Rp.mono g r_law_row
      replace r_law_at := Rp.mono g r_law_at
      replace r_law_long := Rp.mono g r_law_long
      replace r_law_step := Rp.mono g r_law_step
      replace al_law_found := al_law_found.mono fun _ _ => Rp.mono g
      replace r_law_k := Rp.mono g r_law_k
      replace r_law_sign := Rp.mono g r_law_sign
      replace g0 := g0.trans g
      replace gL99 := gL99.trans g
      obtain ⟨b110, hb110, hm⟩ := bnd hm
      refine st_if (et_test (x_eq (by decide) (x_mod (eb_call (em2 (eb_v rfl (Rp.mono A.ex r_law_cell)) (eb_int (K := K)))) (eb_int (K := K))) (eb_int (K := K)))) hb110 (fun eb110 H111 e => ?_) (fun eb110 H111 e => ?_)
      · subst eb110
        replace hm := itt hm
        replace A := A.grow e
        obtain ⟨x_law_word, hx, hm⟩ := bnd hm
        refine sf_asg ((en_if (et_test (x_lt (eb_v rfl (Rp.mono A.ex r_law_k)) (eb_int (K := K)))) (x_cut (eb_v rfl (Rp.mono A.ex r_law_row)) ep_none (ep_some (x_add (eb_int (K := K)) (eb_v rfl (Rp.mono A.ex r_law_k))))) (x_lst (l_cons (x_ixS (eb_v rfl (Rp.mono A.ex r_law_letters)) (x_mod (x_add (x_sindex (eb_v rfl (Rp.mono A.ex r_law_letters)) (x_ixL (eb_v rfl (Rp.mono A.ex r_law_row)) (eb_int (K := K)))) (eb_int (K := K))) (eb_int (K := K)))) (l_nil (K := K)))))).own hx A fun v_law_word G112 H113 g A r_law_word => ?_
        replace r_law_cell := Rp.mono g r_law_cell
        replace r_law_many := Rp.mono g r_law_many
        replace r_law_letters := Rp.mono g r_law_letters
        replace r_law_row := Rp.mono g r_law_row
        replace r_law_at := Rp.mono g r_law_at
        replace r_law_long := Rp.mono g r_law_long
        replace r_law_step := Rp.mono g r_law_step
        replace al_law_found := al_law_found.mono fun _ _ => Rp.mono g
        replace r_law_k := Rp.mono g r_law_k
        replace r_law_sign := Rp.mono g r_law_sign
        replace g0 := g0.trans g
        replace gL99 := gL99.trans g
        obtain ⟨y114, hy114, hm⟩ := bnd hm
        obtain ⟨x_law_found, hd, hm⟩ := bnd hm
        replace hd := fApps hd
        refine sf_app rfl ((x_join (eb_str (K := K)) (eb_v rfl (Rp.mono A.ex r_law_word)))).own hy114 A (by rw [al_law_found.len]; exact hd.2) fun v_law_found G115 H116 g A r_y114 => ?_
        replace r_law_cell := Rp.mono g r_law_cell
        replace r_law_many := Rp.mono g r_law_many
        replace r_law_letters := Rp.mono g r_law_letters
        replace r_law_row := Rp.mono g r_law_row
        replace r_law_at := Rp.mono g r_law_at
        replace r_law_long := Rp.mono g r_law_long
        replace r_law_step := Rp.mono g r_law_step
        replace al_law_found := al_law_found.mono fun _ _ => Rp.mono g
        replace r_law_k := Rp.mono g r_law_k
        replace r_law_sign := Rp.mono g r_law_sign
        replace r_law_word := Rp.mono g r_law_word
        replace g0 := g0.trans g
        replace gL99 := gL99.trans g
        replace al_law_found := al_law_found.app (Al.one r_y114)
        rw [← hd.1] at al_law_found
        generalize vs_law_found ++ [v_law_found] = vs_law_found at A al_law_found
        obtain rfl := Option.some.inj hm
        exact ⟨_, _, ⟨_, _, _, _, rfl, g0, gL99, A, rfl, al_law_found⟩⟩
      · subst eb110
        replace hm := itf hm
        replace A := A.grow e
        obtain ⟨y117, hy117, hm⟩ := bnd hm
        obtain ⟨x_law_found, hd, hm⟩ := bnd hm
        replace hd := fApps hd
        refine sf_app rfl ((x_join (eb_str (K := K)) (eb_v rfl (Rp.mono A.ex r_law_word)))).own hy117 A (by rw [al_law_found.len]; exact hd.2) fun v_law_found G118 H119 g A r_y117 => ?_
        replace r_law_cell := Rp.mono g r_law_cell
        replace r_law_many := Rp.mono g r_law_many
        replace r_law_letters := Rp.mono g r_law_letters
        replace r_law_row := Rp.mono g r_law_row
        replace r_law_at := Rp.mono g r_law_at
        replace r_law_long := Rp.mono g r_law_long
        replace r_law_step := Rp.mono g r_law_step
        replace al_law_found := al_law_found.mono fun _ _ => Rp.mono g
        replace r_law_k := Rp.mono g r_law_k
        replace r_law_sign := Rp.mono g r_law_sign
        replace r_law_word := Rp.mono g r_law_word
        replace g0 := g0.trans g
        replace gL99 := gL99.trans g
        replace al_law_found := al_law_found.app (Al.one r_y117)
        rw [← hd.1] at al_law_found
        generalize vs_law_found ++ [v_law_found] = vs_law_found at A al_law_found
        obtain rfl := Option.some.inj hm
        exact ⟨_, _, ⟨_, _, _, _, rfl, g0, gL99, A, rfl, al_law_found⟩⟩
    · obtain ⟨k_law_k, k_law_sign, k_law_word, vs_law_found, rfl, g0, gL99, A, rfl, al_law_found⟩ := hin
      replace r_law_cell := Rp.mono gL99 r_law_cell
      replace r_law_many := Rp.mono gL99 r_law_many
      replace r_law_letters := Rp.mono gL99 r_law_letters
      replace r_law_row := Rp.mono gL99 r_law_row
      replace r_law_at := Rp.mono gL99 r_law_at
      replace r_law_long := Rp.mono gL99 r_law_long
      replace r_law_step := Rp.mono gL99 r_law_step
      rw [← Option.some.inj hm] at q
      exact sr_m rfl (q p_law_found _ _ (g0.back (A.led (p_law_found, HO.lst vs_law_found) (by simp)).2.1) (g0.trans A.ex) (A.led (p_law_found, HO.lst vs_law_found) (by simp)).1 (al_law_found.mono fun _ _ => Rp.mono A.ex))
/-! _law_reached -/
def m_law_reached_c1 (z126_law_rows : (Ds (List Str))) (s126 : (List Str) × Int) : Option Bool := (o2 fLt (some s126.2) (o1 fLen (some s126.1)))
def m_law_reached_l1 (z126_law_rows : (Ds (List Str))) (s126 : (List Str) × Int) : Option ((List Str) × Int) := ((o2 fCat (some s126.1) (oComp (fun (y135 : Str) => (o2 fNinL (some y135) (some s126.1))) (fun (y135 : Str) => (some y135)) (o3 fGet2 (some z126_law_rows) (o2 ix (some s126.1) (some s126.2)) (o1 szOk (some ([] : List Str))))))).bind fun x_law_found => ((o2 fAdd (some s126.2) (some (1 : Int)))).bind fun x_law_at => some (x_law_found, x_law_at)
def m_law_reached (x_law_rows : (Ds (List Str))) (x_law_word : Str) : Option (List Str) := ((o1 szOk (o2 fCons (some x_law_word) (some ([] : List Str))))).bind fun x_law_found => ((some (0 : Int))).bind fun x_law_at => (whileO (m_law_reached_c1 x_law_rows) (m_law_reached_l1 x_law_rows) (400) (x_law_found, x_law_at)).bind fun w126 => some w126.1
set_option maxHeartbeats 4000000 in
theorem ok_law_reached {P : Program} {w : World} {K : Fg} {mg : Str → Option Value} {base : Heap} (T : Txt K mg) : FnOk P w K mg base CX0 1 T.a_law_reached T.d_law_reached ["_law_rows", "_law_word"] (PSn K (A2 K m_law_reached)) := by
  refine T.F_law_reached.ok sc_law_reached (fun vs H Q E h => ?_) (fun cdv A0 outer s H vs Q E hr h => ?_)
  · obtain ⟨r, ⟨v_law_rows, v_law_word, x_law_rows, x_law_word, rfl, r_law_rows, r_law_word, hm⟩, q⟩ := h
    rfl
  · obtain ⟨r_fn, ⟨v_law_rows, v_law_word, x_law_rows, x_law_word, rfl, r_law_rows, r_law_word, hm⟩, q⟩ := h
    refine ⟨_, (pss_cons (ps_set (i := 2) sc_law_reached.nd rfl (by first | exact Or.inl rfl | exact Or.inr rfl) (pe_lst (pa_cons (pv 1) pa_nil))) (pss_cons (ps_set (i := 3) sc_law_reached.nd rfl (by first | exact Or.inl rfl | exact Or.inr rfl) pe_int) (pss_cons (ps_while PassesOwn.never (pt_cmpR op_lt (pv 3) (pe_callB (len_K (K := K) rfl) (by rfl) T.n_len bb_len (pa_cons (pv 2) pa_nil)) (nomark _)) (pss_cons (ps_set (i := 2) sc_law_reached.nd rfl (by first | exact Or.inl rfl | exact Or.inr rfl) (pe_op op_cat (pv 2) (pe_lc (own := [("_law_member", 4)]) (g := (gName 4)) rfl sc_law_reached.nd (piL_K (K := K) rfl (pe_dget2 (hu_of hr) (pv 0) (pe_ix (ixL_K (K := K) rfl) (pv 2) (pv 3) (fun _ _ => rfl)) (pe_lst pa_nil) ⟨by rfl, by rfl, by rfl, by rfl⟩)) (blkOk_by (N := ["_law_rows", "_law_word", "_law_found", "_law_at", "_law_member"]) (sc := defScope s_law_reached) (by decide +kernel)) (fun _ _ _ _ _ => by exact (pg_name (i := 4) sc_law_reached.nd rfl (by first | exact Or.inl rfl | exact Or.inr rfl))) (fun _ _ _ _ _ => by exact (pts_one (pt_cmpR (opNin_K (K := K) rfl) (pv 4) (pv 2) (by rfl)))) (fun _ _ _ _ _ => by exact (pv 4))))) (pss_cons (ps_set (i := 3) sc_law_reached.nd rfl (by first | exact Or.inl rfl | exact Or.inr rfl) (pe_op op_add (pv 3) pe_int)) pss_nil))) (pss_cons (ps_ret (pv 2)) pss_nil)))), ?_⟩
    unfold m_law_reached at hm
    obtain ⟨H0, e0, q⟩ := heapN q
    obtain ⟨G, A, g0, r_law_rows, r_law_word⟩ : exists G, At G H [] ∧ Gx H0 G ∧ rp K G v_law_rows x_law_rows ∧ rp K G v_law_word x_law_word := ⟨H, At.nil H, e0, r_law_rows, r_law_word⟩
    clear e0
    obtain ⟨x_law_found, hx, hm⟩ := bnd hm
    refine sf_newM (x_lst (l_cons (eb_v rfl (Rp.mono A.ex r_law_word)) (l_nil (K := K)))) hx A fun p_law_found vs_law_found G122 H123 g A al_law_found => ?_
    replace r_law_rows := Rp.mono g r_law_rows
    replace r_law_word := Rp.mono g r_law_word
    replace g0 := g0.trans g
    obtain ⟨x_law_at, hx, hm⟩ := bnd hm
    refine sf_asg ((eb_int (K := K))).own hx A fun v_law_at G124 H125 g A r_law_at => ?_
    replace r_law_rows := Rp.mono g r_law_rows
    replace r_law_word := Rp.mono g r_law_word
    replace al_law_found := al_law_found.mono fun _ _ => Rp.mono g
    replace g0 := g0.trans g
    obtain ⟨w126, hl126, hm⟩ := bnd hm
    have gL126 : Gx G124 G124 := Gx.rfl
    refine st_whileO hl126 (fun (s126 : (List Str) × Int) (σ : L2.St) (H : Hp) => exists (Gi : Hp) (p_law_found : Addr) (vs_law_found : List V) (v_law_at : V), σ = [some v_law_rows, some v_law_word, some (.ref p_law_found), some v_law_at, none] ∧ Gx H0 Gi ∧ Gx G124 Gi ∧ At Gi H ([(p_law_found, HO.lst vs_law_found)] ++ ([] : Led)) ∧ Al (rp K Gi) vs_law_found s126.1 ∧ rp K Gi v_law_at s126.2) ?_ (fun s126 σ H128 hin => ?_) (fun s126 o126 σ H131 H130 hcm hf hin e => ?_) (fun σ H134 H133 hin e => ?_)
    · exact ⟨_, _, _, _, rfl, g0, gL126, A, al_law_found, r_law_at⟩
    · obtain ⟨G127, p_law_found, vs_law_found, v_law_at, rfl, g0, gL126, A, al_law_found, r_law_at⟩ := hin
      replace r_law_rows := Rp.mono gL126 r_law_rows
      replace r_law_word := Rp.mono gL126 r_law_word
      show EvT _ _ _ (m_law_reached_c1 x_law_rows s126)
      unfold m_law_reached_c1
      exact (et_test (x_lt (eb_v rfl (Rp.mono A.ex r_law_at)) (x_lenL (eb_v rfl (mv_rp A (by simp) al_law_found)))))
    · obtain ⟨G129, p_law_found, vs_law_found, v_law_at, rfl, g0, gL126, A, al_law_found, r_law_at⟩ := hin
      replace A := A.grow e
      replace r_law_rows := Rp.mono gL126 r_law_rows
      replace r_law_word := Rp.mono gL126 r_law_word
      have hm := hf
      unfold m_law_reached_l1 at hm
      obtain ⟨x_law_found, hx, hm⟩ := bnd hm
      refine sf_newM (x_cat (eb_v rfl (mv_rp A (by simp) al_law_found)) ((x_lc (i_list (es_b (x_get2 (eb_v rfl (Rp.mono A.ex r_law_rows)) (x_ixL (eb_v rfl (mv_rp A (by simp) al_law_found)) (eb_v rfl (Rp.mono A.ex r_law_at))) ((x_lst (l_nil (K := K)))).b))) tg_n (bi_n (by decide)) (fun y135 σc Hc gh135 hb135 => by obtain ⟨c135v_law_member, c135r_law_member, rfl⟩ := hb135; exact (et_test (x_ninL (eb_v rfl c135r_law_member) (eb_v rfl (Rp.mono gh135 (mv_rp A (by simp) al_law_found)))))) (fun y135 σc Hc gh135 hb135 => by obtain ⟨c135v_law_member, c135r_law_member, rfl⟩ := hb135; exact (eb_v rfl c135r_law_member)))).b) hx A fun p_law_found vs_law_found G136 H137 g A al_law_found => ?_
      replace A := At.b1 A
      replace A := At.drop1 A
      replace r_law_rows := Rp.mono g r_law_rows
      replace r_law_word := Rp.mono g r_law_word
      replace r_law_at := Rp.mono g r_law_at
      replace g0 := g0.trans g
      replace gL126 := gL126.trans g
      obtain ⟨x_law_at, hx, hm⟩ := bnd hm
      refine sf_asg ((x_add (eb_v rfl (Rp.mono A.ex r_law_at)) (eb_int (K := K)))).own hx A fun v_law_at G138 H139 g A r_law_at => ?_
      replace r_law_rows := Rp.mono g r_law_rows
      replace r_law_word := Rp.mono g r_law_word
      replace al_law_found := al_law_found.mono fun _ _ => Rp.mono g
      replace g0 := g0.trans g
      replace gL126 := gL126.trans g
      obtain rfl := Option.some.inj hm
      exact ⟨_, _, _, _, rfl, g0, gL126, A, al_law_found, r_law_at⟩
    · obtain ⟨G132, p_law_found, vs_law_found, v_law_at, rfl, g0, gL126, A, al_law_found, r_law_at⟩ := hin
      replace A := A.grow e
      replace r_law_rows := Rp.mono gL126 r_law_rows
      replace r_law_word := Rp.mono gL126 r_law_word
      rw [← Option.some.inj hm] at q
      exact sr_m rfl (q p_law_found _ _ (g0.back (A.led (p_law_found, HO.lst vs_law_found) (by simp)).2.1) (g0.trans A.ex) (A.led (p_law_found, HO.lst vs_law_found) (by simp)).1 (al_law_found.mono fun _ _ => Rp.mono A.ex))
/-! _law_words -/
def m_law_words (x_law_script : Scr) : Option ((List Str) × (List Str)) := ((o2 m_law_mixed (o2 m_law_cell_at (some x_law_script) (some (0 : Int))) (some (1 : Int)))).bind fun x_law_one => ((o2 m_law_mixed (o2 m_law_cell_at (some x_law_script) (some (1 : Int))) (some (2 : Int)))).bind fun x_law_other => ((o2 m_law_names (some x_law_one) (some (9 : Int)))).bind fun x_law_names_here => ((o2 fCat (some x_law_names_here) (oComp (fun (y146 : Str) => (o2 fNinL (some y146) (some x_law_names_here))) (fun (y146 : Str) => (some y146)) (o2 m_law_names (some x_law_other) (some (9 : Int)))))).bind fun x_law_names_here => ((o2 fAdd (some (1 : Int)) (o2 fMod (some x_law_other) (o2 fMin (some (9 : Int)) (o2 fSub (o1 fLen (some x_law_names_here)) (some (1 : Int))))))).bind fun x_law_many => (o2 fPair (o3 fCut (some x_law_names_here) (some none) (((some x_law_many)).map some)) (o3 fCut (some x_law_names_here) (((some x_law_many)).map some) (((o2 fAdd (some x_law_many) (some (9 : Int)))).map some)))
set_option maxHeartbeats 4000000 in
theorem ok_law_words {P : Program} {w : World} {K : Fg} {mg : Str → Option Value} {base : Heap} (T : Txt K mg) : FnOk P w K mg base CX0 3 T.a_law_words T.d_law_words ["_law_script"] (PSb K (A1 K m_law_words)) := by
  refine T.F_law_words.ok sc_law_words (fun vs H Q E h => ?_) (fun cdv A0 outer s H vs Q E hr h => ?_)
  · obtain ⟨r, ⟨v_law_script, x_law_script, rfl, r_law_script, hm⟩, q⟩ := h
    rfl
  · obtain ⟨r_fn, ⟨v_law_script, x_law_script, rfl, r_law_script, hm⟩, q⟩ := h
    refine ⟨_, (pss_cons (ps_set (i := 1) sc_law_words.nd rfl (by first | exact Or.inl rfl | exact Or.inr rfl) (pe_call (ok_law_mixed T) (hr.mono (by decide)) (by rfl) T.g_law_mixed T.F_law_mixed.kp T.b_law_mixed .nil pass0 (pa_cons (pe_call (ok_law_cell_at T) (hr.mono (by decide)) (by rfl) T.g_law_cell_at T.F_law_cell_at.kp T.b_law_cell_at .nil pass0 (pa_cons (pv 0) (pa_cons pe_int pa_nil))) (pa_cons pe_int pa_nil)))) (pss_cons (ps_set (i := 2) sc_law_words.nd rfl (by first | exact Or.inl rfl | exact Or.inr rfl) (pe_call (ok_law_mixed T) (hr.mono (by decide)) (by rfl) T.g_law_mixed T.F_law_mixed.kp T.b_law_mixed .nil pass0 (pa_cons (pe_call (ok_law_cell_at T) (hr.mono (by decide)) (by rfl) T.g_law_cell_at T.F_law_cell_at.kp T.b_law_cell_at .nil pass0 (pa_cons (pv 0) (pa_cons pe_int pa_nil))) (pa_cons pe_int pa_nil)))) (pss_cons (ps_set (i := 3) sc_law_words.nd rfl (by first | exact Or.inl rfl | exact Or.inr rfl) (pe_call (ok_law_names T) (hr.mono (by decide)) (by rfl) T.g_law_names T.F_law_names.kp T.b_law_names .nil pass0 (pa_cons (pv 1) (pa_cons pe_int pa_nil)))) (pss_cons (ps_set (i := 3) sc_law_words.nd rfl (by first | exact Or.inl rfl | exact Or.inr rfl) (pe_op op_cat (pv 3) (pe_lc (own := [("_law_name", 5)]) (g := (gName 5)) rfl sc_law_words.nd (piL_K (K := K) rfl (pe_call (ok_law_names T) (hr.mono (by decide)) (by rfl) T.g_law_names T.F_law_names.kp T.b_law_names .nil pass0 (pa_cons (pv 2) (pa_cons pe_int pa_nil)))) (blkOk_by (N := ["_law_script", "_law_one", "_law_other", "_law_names_here", "_law_many", "_law_name"]) (sc := defScope s_law_words) (by decide +kernel)) (fun _ _ _ _ _ => by exact (pg_name (i := 5) sc_law_words.nd rfl (by first | exact Or.inl rfl | exact Or.inr rfl))) (fun _ _ _ _ _ => by exact (pts_one (pt_cmpR (opNin_K (K := K) rfl) (pv 5) (pv 3) (by rfl)))) (fun _ _ _ _ _ => by exact (pv 5))))) (pss_cons (ps_set (i := 4) sc_law_words.nd rfl (by first | exact Or.inl rfl | exact Or.inr rfl) (pe_op op_add pe_int (pe_op op_mod (pv 2) (pe_callB (call_min2 rfl) (by rfl) T.n_min bb_min (pa_cons pe_int (pa_cons (pe_op op_sub (pe_callB (len_K (K := K) rfl) (by rfl) T.n_len bb_len (pa_cons (pv 3) pa_nil)) pe_int) pa_nil)))))) (pss_cons (ps_ret (pe_tup (pa_cons (pe_slice (slL_K (K := K) rfl) (pv 3) po_none (po_some (pv 4))) (pa_cons (pe_slice (slL_K (K := K) rfl) (pv 3) (po_some (pv 4)) (po_some (pe_op op_add (pv 4) pe_int))) pa_nil)))) pss_nil)))))), ?_⟩
    unfold m_law_words at hm
    obtain ⟨H0, e0, q⟩ := heapB q
    obtain ⟨G, A, g0, r_law_script⟩ : exists G, At G H [] ∧ Gx H0 G ∧ rp K G v_law_script x_law_script := ⟨H, At.nil H, e0, r_law_script⟩
    clear e0
    obtain ⟨x_law_one, hx, hm⟩ := bnd hm
    refine sf_asg ((eb_call (em2 (eb_call (em2 (eb_v rfl (Rp.mono A.ex r_law_script)) (eb_int (K := K)))) (eb_int (K := K))))).own hx A fun v_law_one G140 H141 g A r_law_one => ?_
    replace r_law_script := Rp.mono g r_law_script
    replace g0 := g0.trans g
    obtain ⟨x_law_other, hx, hm⟩ := bnd hm
    refine sf_asg ((eb_call (em2 (eb_call (em2 (eb_v rfl (Rp.mono A.ex r_law_script)) (eb_int (K := K)))) (eb_int (K := K))))).own hx A fun v_law_other G142 H143 g A r_law_other => ?_
    replace r_law_script := Rp.mono g r_law_script
    replace r_law_one := Rp.mono g r_law_one
    replace g0 := g0.trans g
    obtain ⟨x_law_names_here, hx, hm⟩ := bnd hm
    refine sf_asg ((en_call (em2 (eb_v rfl (Rp.mono A.ex r_law_one)) (eb_int (K := K))))).own hx A fun v_law_names_here G144 H145 g A r_law_names_here => ?_
    replace r_law_script := Rp.mono g r_law_script
    replace r_law_one := Rp.mono g r_law_one
    replace r_law_other := Rp.mono g r_law_other
    replace g0 := g0.trans g
    obtain ⟨x_law_names_here, hx, hm⟩ := bnd hm
    refine sf_asg (eo_cat (eo_v rfl r_law_names_here) ((x_lc (i_list (es_b ((en_call (em2 (eb_v rfl (Rp.mono A.ex r_law_other)) (eb_int (K := K))))).b)) tg_n (bi_n (by decide)) (fun y146 σc Hc gh146 hb146 => by obtain ⟨c146v_law_name, c146r_law_name, rfl⟩ := hb146; exact (et_test (x_ninL (eb_v rfl c146r_law_name) (eb_v rfl (Rp.mono gh146 (Rp.mono A.ex r_law_names_here)))))) (fun y146 σc Hc gh146 hb146 => by obtain ⟨c146v_law_name, c146r_law_name, rfl⟩ := hb146; exact (eb_v rfl c146r_law_name)))).own) hx A fun v_law_names_here G147 H148 g A r_law_names_here => ?_
    replace r_law_script := Rp.mono g r_law_script
    replace r_law_one := Rp.mono g r_law_one
    replace r_law_other := Rp.mono g r_law_other
    replace g0 := g0.trans g
    obtain ⟨x_law_many, hx, hm⟩ := bnd hm
    refine sf_asg ((x_add (eb_int (K := K)) (x_mod (eb_v rfl (Rp.mono A.ex r_law_other)) (x_min (eb_int (K := K)) (x_sub (x_lenL (eb_v rfl (Rp.mono A.ex r_law_names_here))) (eb_int (K := K))))))).own hx A fun v_law_many G149 H150 g A r_law_many => ?_
    replace r_law_script := Rp.mono g r_law_script
    replace r_law_one := Rp.mono g r_law_one
    replace r_law_other := Rp.mono g r_law_other
    replace r_law_names_here := Rp.mono g r_law_names_here
    replace g0 := g0.trans g
    exact sr_b (x_pair ((x_cut (eb_v rfl (Rp.mono A.ex r_law_names_here)) ep_none (ep_some (eb_v rfl (Rp.mono A.ex r_law_many))))).b ((x_cut (eb_v rfl (Rp.mono A.ex r_law_names_here)) (ep_some (eb_v rfl (Rp.mono A.ex r_law_many))) (ep_some (x_add (eb_v rfl (Rp.mono A.ex r_law_many)) (eb_int (K := K)))))).b) hm fun w H e r => q w H ((g0.trans A.ex).trans e) r
/-! Folk.put -/
def m_Folk_put (x_self : FolkS) (x_group : Dy) (x_member : Dy) : Option (FolkS ⊕ String) := ((oOr (oNot (o1 m_is_name (some x_group))) (o2 fInT (o1 yStr (some x_group)) (((some x_self)).map (fun x => (⟨x.names⟩ : Tl Str)))))).bind fun b151 => if b151 = true then (some (Sum.inr "NoName")) else (((oOr (oNot (o1 (fIsY "str") (some x_member))) (oNot (oOr (o2 fEqP (o1 yStr (some x_member)) (o1 yStr (some x_group))) (o2 m_Folk_has_word (some x_self) (some x_member)))))).bind fun b153 => if b153 = true then (some (Sum.inr "NoName")) else (((oOr (o2 fEqP (o1 yStr (some x_member)) (o1 yStr (some x_group))) (oAnd (o2 m_Folk_is_group (some x_self) (some x_group)) (o2 fInL (o1 yStr (some x_member)) ((o2 m_Folk_groups_of (some x_self) (some x_group)).bind getL))))).bind fun b155 => if b155 = true then (some (Sum.inr "Ring")) else ((yStr x_group).bind fun x_g => (yStr x_member).bind fun x_m => fPutF x_self x_g x_m)))
set_option maxHeartbeats 4000000 in
theorem ok_Folk_put {P : Program} {w : World} {K : Fg} {mg : Str → Option Value} {base : Heap} (T : Txt K mg) : FnOk P w K mg base (L2.CX P w) 5 T.a_Folk_put T.d_Folk_put ["self", "group", "member"] (PSmY K m_Folk_put) := by
  refine T.F_Folk_put.okX sc_Folk_put (fun vs H Q E h => ?_) (fun cdv A0 outer s H vs Q E hr h => ?_)
  · obtain ⟨G0, LL, v_self, x_self, es_self, v_group, v_member, x_group, x_member, r_fn, rfl, A, w_self, r_group, r_member, hm, qn, qx⟩ := h
    rfl
  · obtain ⟨G0, LL, v_self, x_self, es_self, v_group, v_member, x_group, x_member, r_fn, rfl, A, w_self, r_group, r_member, hm, qn, qx⟩ := h
    refine ⟨_, (pss_cons (ps_if (PW.pt (pw_or (pt_not (pt_val (pe_call (ok_is_name T) (hr.mono (by decide)) (by rfl) T.g_is_name T.F_is_name.kp T.b_is_name .nil pass0 (pa_cons (pv 1) pa_nil)))) (pw_or1 (pt_cmpR (opIn_K (K := K) rfl) (pv 1) (pe_fld (pv 0) rfl) (by rfl))))) (pss_cons (ps_raise rfl (takes_of rfl rfl rfl rfl) (pmk_own PySem.F.excBase_ValueError T.x_NoName T.g_NoName T.k_NoName (raises_own T.b_NoName T.t_NoName) rfl)) pss_nil) pss_nil) (pss_cons (ps_if (PW.pt (pw_or (pt_not (pt_val (pe_callB (isi_K (K := K) rfl) (by rfl) T.n_isinstance bb_isinstance (pa_cons (pv 2) (pa_cons (pe_bltn (v := .ty "str") (by rfl) T.n_str bb_str rfl) pa_nil))))) (pw_or1 (pt_not (PW.pt (pw_or (pt_cmpR (opEq_K (K := K) rfl hr.units) (pv 2) (pv 1) (nomark _)) (pw_or1 (pt_val (pe_meth (pv 0) T.cl_Folk T.M_Folk_has_word (ok_Folk_has_word T) (hr.mono (by decide)) T.b_Folk_has_word .nil pass0 (pa_cons (pv 2) pa_nil)))))))))) (pss_cons (ps_raise rfl (takes_of rfl rfl rfl rfl) (pmk_own PySem.F.excBase_ValueError T.x_NoName T.g_NoName T.k_NoName (raises_own T.b_NoName T.t_NoName) rfl)) pss_nil) pss_nil) (pss_cons (ps_if (PW.pt (pw_or (pt_cmpR (opEq_K (K := K) rfl hr.units) (pv 2) (pv 1) (nomark _)) (pw_or1 (PW.pt (pw_and (pt_val (pe_meth (pv 0) T.cl_Folk T.M_Folk_is_group (ok_Folk_is_group T) (hr.mono (by decide)) T.b_Folk_is_group .nil pass0 (pa_cons (pv 1) pa_nil))) (pw_and1 (pt_cmpR (opIn_K (K := K) rfl) (pv 2) (pe_meth (pv 0) T.cl_Folk T.M_Folk_groups_of (ok_Folk_groups_of T) (hr.mono (by decide)) T.b_Folk_groups_of .nil (passes_call (takes_of rfl rfl rfl rfl) (fun _ _ _ _ h => h)) (pa_cons (pv 1) pa_nil)) (by rfl)))))))) (pss_cons (ps_raise rfl (takes_of rfl rfl rfl rfl) (pmk_own PySem.F.excBase_ValueError T.x_Ring T.g_Ring T.k_Ring (raises_own T.b_Ring T.t_Ring) rfl)) pss_nil) pss_nil) (pss_cons (ps_set (i := 3) sc_Folk_put.nd rfl (by first | exact Or.inl rfl | exact Or.inr rfl) (pe_dsetd (pe_fld (pv 0) rfl) (pv 1) (pe_lst pa_nil) ⟨by rfl, by rfl, by rfl, by rfl⟩)) (pss_cons (ps_if (pt_cmpR (opNin_K (K := K) rfl) (pv 2) (pv 3) (by rfl)) (pss_cons (ps_expr (pe_bm PySem.F.plainAttrs_list PySem.F.slot_list_append PySem.F.type_list_append mt_append (pv 3) (pa_cons (pv 2) pa_nil))) pss_nil) pss_nil) pss_nil))))), ?_⟩
    unfold m_Folk_put at hm
    have g0 : Gx G0 G0 := Gx.rfl
    obtain ⟨b151, hb151, hm⟩ := bnd hm
    refine st_if (et_or (et_not (et_b (eb_call (em1 (eb_v rfl (Rp.mono A.ex r_group)))))) (et_test (x_inT (x_cast (fun h r => y_str h r) (eb_v rfl (Rp.mono A.ex r_group))) (x_att folk_names T.i_Folk T.cl_Folk T.na_Folk_names (eb_v rfl (fow_rp A (fun e h => by simp [h]) w_self)))))) hb151 (fun eb151 H152 e => ?_) (fun eb151 H152 e => ?_)
    · subst eb151
      replace hm := itt hm
      replace A := A.grow e
      exact qx "NoName" (Option.some.inj hm).symm _ _ _ T.i_NoName g0 A
    · subst eb151
      replace hm := itf hm
      replace A := A.grow e
      obtain ⟨b153, hb153, hm⟩ := bnd hm
      refine st_if (et_or (et_not (et_b (x_isiY kitY_str (eb_v rfl (Rp.mono A.ex r_member))))) (et_not (et_or (et_test (x_eqP (by decide) (x_cast (fun h r => y_str h r) (eb_v rfl (Rp.mono A.ex r_member))) (x_cast (fun h r => y_str h r) (eb_v rfl (Rp.mono A.ex r_group))))) (et_b (x_m1 (folk_nm (m := "has_word") (by decide +kernel)) T.i_Folk (eb_v rfl (fow_rp A (fun e h => by simp [h]) w_self)) (eb_v rfl (Rp.mono A.ex r_member))))))) hb153 (fun eb153 H154 e => ?_) (fun eb153 H154 e => ?_)
      · subst eb153
        replace hm := itt hm
        replace A := A.grow e
        exact qx "NoName" (Option.some.inj hm).symm _ _ _ T.i_NoName g0 A
      · subst eb153
        replace hm := itf hm
        replace A := A.grow e
        obtain ⟨b155, hb155, hm⟩ := bnd hm
        refine st_if (et_or (et_test (x_eqP (by decide) (x_cast (fun h r => y_str h r) (eb_v rfl (Rp.mono A.ex r_member))) (x_cast (fun h r => y_str h r) (eb_v rfl (Rp.mono A.ex r_group))))) (et_and (et_b (x_m1 (folk_nm (m := "is_group") (by decide +kernel)) T.i_Folk (eb_v rfl (fow_rp A (fun e h => by simp [h]) w_self)) (eb_v rfl (Rp.mono A.ex r_group)))) (et_test (x_inL (x_cast (fun h r => y_str h r) (eb_v rfl (Rp.mono A.ex r_member))) ((n_y1 (folk_nm (m := "groups_of") (by decide +kernel)) T.i_Folk (eb_v rfl (fow_rp A (fun e h => by simp [h]) w_self)) (eb_v rfl (Rp.mono A.ex r_group)))).b)))) hb155 (fun eb155 H156 e => ?_) (fun eb155 H156 e => ?_)
        · subst eb155
          replace hm := itt hm
          replace A := A.grow e
          exact qx "Ring" (Option.some.inj hm).symm _ _ _ T.i_Ring g0 A
        · subst eb155
          replace hm := itf hm
          replace A := A.grow e
          obtain ⟨x_g, hx_g, hm⟩ := bnd hm
          obtain ⟨x_m, hx_m, hm⟩ := bnd hm
          have ev_g : v_group = V.str x_g := y_str hx_g r_group
          have ev_m : v_member = V.str x_m := y_str hx_m r_member
          subst ev_g
          subst ev_m
          obtain ⟨er, hz⟩ := fPutFs hm
          refine fo_put w_self A rfl rfl rfl ?_ T.i_Folk T.cl_Folk T.na_Folk_members hz fun σ2 G2 H2 es2 g A w => qn _ er G2 H2 es2 (g0.trans g) A w
          exact (by decide : 3 < 4)
/-! Folk.take -/
def m_Folk_take (x_self : FolkS) (x_group : Dy) (x_member : Dy) : Option (FolkS ⊕ String) := ((oOr (oNot (o2 m_Folk_is_group (some x_self) (some x_group))) (oOr (oNot (o1 (fIsY "str") (some x_member))) (o2 fNinL (o1 yStr (some x_member)) (o2 fGetD (((some x_self)).map (fun x => (⟨x.rows⟩ : Ds (List Str)))) (o1 yStr (some x_group))))))).bind fun b157 => if b157 = true then (some (Sum.inr "NoName")) else ((yStr x_group).bind fun x_g => (yStr x_member).bind fun x_m => fTakeF x_self x_g x_m)
set_option maxHeartbeats 4000000 in
theorem ok_Folk_take {P : Program} {w : World} {K : Fg} {mg : Str → Option Value} {base : Heap} (T : Txt K mg) : FnOk P w K mg base (L2.CX P w) 2 T.a_Folk_take T.d_Folk_take ["self", "group", "member"] (PSmY K m_Folk_take) := by
  refine T.F_Folk_take.okX sc_Folk_take (fun vs H Q E h => ?_) (fun cdv A0 outer s H vs Q E hr h => ?_)
  · obtain ⟨G0, LL, v_self, x_self, es_self, v_group, v_member, x_group, x_member, r_fn, rfl, A, w_self, r_group, r_member, hm, qn, qx⟩ := h
    rfl
  · obtain ⟨G0, LL, v_self, x_self, es_self, v_group, v_member, x_group, x_member, r_fn, rfl, A, w_self, r_group, r_member, hm, qn, qx⟩ := h
    refine ⟨_, (pss_cons (ps_if (PW.pt (pw_or (pt_not (pt_val (pe_meth (pv 0) T.cl_Folk T.M_Folk_is_group (ok_Folk_is_group T) (hr.mono (by decide)) T.b_Folk_is_group .nil pass0 (pa_cons (pv 1) pa_nil)))) (pw_or (pt_not (pt_val (pe_callB (isi_K (K := K) rfl) (by rfl) T.n_isinstance bb_isinstance (pa_cons (pv 2) (pa_cons (pe_bltn (v := .ty "str") (by rfl) T.n_str bb_str rfl) pa_nil))))) (pw_or1 (pt_cmpR (opNin_K (K := K) rfl) (pv 2) (pe_dget (hu_of hr) (pe_fld (pv 0) rfl) (pv 1) (fun _ _ => rfl)) (by rfl)))))) (pss_cons (ps_raise rfl (takes_of rfl rfl rfl rfl) (pmk_own PySem.F.excBase_ValueError T.x_NoName T.g_NoName T.k_NoName (raises_own T.b_NoName T.t_NoName) rfl)) pss_nil) pss_nil) (pss_cons (ps_expr (pe_bm PySem.F.plainAttrs_list PySem.F.slot_list_remove PySem.F.type_list_remove mt_removeS (pe_dget (hu_of hr) (pe_fld (pv 0) rfl) (pv 1) (fun _ _ => rfl)) (pa_cons (pv 2) pa_nil))) pss_nil)), ?_⟩
    unfold m_Folk_take at hm
    have g0 : Gx G0 G0 := Gx.rfl
    obtain ⟨b157, hb157, hm⟩ := bnd hm
    refine st_if (et_or (et_not (et_b (x_m1 (folk_nm (m := "is_group") (by decide +kernel)) T.i_Folk (eb_v rfl (fow_rp A (fun e h => by simp [h]) w_self)) (eb_v rfl (Rp.mono A.ex r_group))))) (et_or (et_not (et_b (x_isiY kitY_str (eb_v rfl (Rp.mono A.ex r_member))))) (et_test (x_ninL (x_cast (fun h r => y_str h r) (eb_v rfl (Rp.mono A.ex r_member))) (x_getD (x_att folk_members T.i_Folk T.cl_Folk T.na_Folk_members (eb_v rfl (fow_rp A (fun e h => by simp [h]) w_self))) (x_cast (fun h r => y_str h r) (eb_v rfl (Rp.mono A.ex r_group)))))))) hb157 (fun eb157 H158 e => ?_) (fun eb157 H158 e => ?_)
    · subst eb157
      replace hm := itt hm
      replace A := A.grow e
      exact qx "NoName" (Option.some.inj hm).symm _ _ _ T.i_NoName g0 A
    · subst eb157
      replace hm := itf hm
      replace A := A.grow e
      obtain ⟨x_g, hx_g, hm⟩ := bnd hm
      obtain ⟨x_m, hx_m, hm⟩ := bnd hm
      have ev_g : v_group = V.str x_g := y_str hx_g r_group
      have ev_m : v_member = V.str x_m := y_str hx_m r_member
      subst ev_g
      subst ev_m
      obtain ⟨er, hz⟩ := fTakeFs hm
      exact fo_take w_self A rfl rfl rfl T.i_Folk T.cl_Folk T.na_Folk_members hz fun σ2 H2 es2 A w => qn _ er _ H2 es2 g0 A w
theorem ok_Folk___init__ {P : Program} {w : World} {K : Fg} {mg : Str → Option Value} {base : Heap} (T : Txt K mg) : FnOk P w K mg base CX0 1 T.a_Folk___init__ T.d_Folk___init__ ["self", "people"] (PSi K) := by
  refine T.F_Folk___init__.ok sc_Folk___init__ (fun vs H Q E h => ?_) (fun cdv A0 outer s H vs Q E hr h => ?_)
  · obtain ⟨x, p, ws, C, dx, rfl, h⟩ := h
    rfl
  · obtain ⟨x, p, ws, C, dx, rfl, iC, hx, hp, q⟩ := h
    cases isC.uniq iC T.i_Folk
    refine ⟨_, pss_cons (ps_fld (pv 0) (pe_callTy (tof_K (K := K) rfl) (by rfl) T.n_tuple bb_tuple (pa_cons (pv 1) pa_nil)) rfl) (pss_cons (ps_fld (pv 0) pe_dnewK rfl) pss_nil), ?_⟩
    exact st_init hx hp T.cl_Folk T.na_Folk_names T.na_Folk_members rfl rfl q rfl
/-! _law_kinds -/
def m_law_kinds (x_law_e : (Dy ⊕ Xn)) : Option (List Str) := ((o1 szOk (o2 fCons (o2 fPair (some (Str.ofString "text")) (o1 (fIsV ["NoName", "Ring"] (fun c => decide (c = "BadText"))) (some x_law_e))) (o2 fCons (o2 fPair (some (Str.ofString "set")) (o1 (fIsV ["NoName", "Ring"] (fun c => decide (c = "BadSet"))) (some x_law_e))) (o2 fCons (o2 fPair (some (Str.ofString "value")) (o1 (fIsV ["NoName", "Ring"] (fun c => decide (c = "BadValue"))) (some x_law_e))) (some ([] : List (Str × Bool)))))))).bind fun x_law_some => ((o2 fCat (some x_law_some) (o1 szOk (o2 fCons (o2 fPair (some (Str.ofString "asking")) (o1 (fIsV ["NoName", "Ring"] (fun c => decide (c = "BadAsking"))) (some x_law_e))) (o2 fCons (o2 fPair (some (Str.ofString "gate")) (o1 (fIsV ["NoName", "Ring"] (fun c => decide (c = "NoGate"))) (some x_law_e))) (some ([] : List (Str × Bool)))))))).bind fun x_law_some => ((o2 fCat (some x_law_some) (o1 szOk (o2 fCons (o2 fPair (some (Str.ofString "rule")) (o1 (fIsV ["NoName", "Ring"] (fun c => decide (c = "NoRule"))) (some x_law_e))) (o2 fCons (o2 fPair (some (Str.ofString "much")) (o1 (fIsV ["NoName", "Ring"] (fun c => decide (c = "TooMuch"))) (some x_law_e))) (o2 fCons (o2 fPair (some (Str.ofString "wish")) (o1 (fIsV ["NoName", "Ring"] (fun c => decide (c = "BadWish"))) (some x_law_e))) (some ([] : List (Str × Bool))))))))).bind fun x_law_some => ((o2 fCat (some x_law_some) (o1 szOk (o2 fCons (o2 fPair (some (Str.ofString "name")) (o1 (fIsV ["NoName", "Ring"] (fun c => decide (c = "NoName"))) (some x_law_e))) (o2 fCons (o2 fPair (some (Str.ofString "ring")) (o1 (fIsV ["NoName", "Ring"] (fun c => decide (c = "Ring"))) (some x_law_e))) (some ([] : List (Str × Bool)))))))).bind fun x_law_some => ((o2 fCat (some x_law_some) (o1 szOk (o2 fCons (o2 fPair (some (Str.ofString "version")) (o1 (fIsV ["NoName", "Ring"] (fun c => decide (c = "NoVersion"))) (some x_law_e))) (o2 fCons (o2 fPair (some (Str.ofString "use")) (o1 (fIsV ["NoName", "Ring"] (fun c => decide (c = "InUse"))) (some x_law_e))) (some ([] : List (Str × Bool)))))))).bind fun x_law_some => (o2 fCat (oComp (fun (y170 : (Str × Bool)) => (some y170.2)) (fun (y170 : (Str × Bool)) => (some y170.1)) (some x_law_some)) (o2 fRep (o1 szOk (o2 fCons (some (Str.ofString "bare")) (some ([] : List Str)))) (o1 fIntB (oNot (o1 (fIsV ["NoName", "Ring"] (fun _ => true)) (some x_law_e))))))
set_option maxHeartbeats 4000000 in
theorem ok_law_kinds {P : Program} {w : World} {K : Fg} {mg : Str → Option Value} {base : Heap} (T : Txt K mg) : FnOk P w K mg base CX0 1 T.a_law_kinds T.d_law_kinds ["_law_e"] (PSn K (A1 K m_law_kinds)) := by
  refine T.F_law_kinds.ok sc_law_kinds (fun vs H Q E h => ?_) (fun cdv A0 outer s H vs Q E hr h => ?_)
  · obtain ⟨r, ⟨v_law_e, x_law_e, rfl, r_law_e, hm⟩, q⟩ := h
    rfl
  · obtain ⟨r_fn, ⟨v_law_e, x_law_e, rfl, r_law_e, hm⟩, q⟩ := h
    refine ⟨_, (pss_cons (ps_set (i := 1) sc_law_kinds.nd rfl (by first | exact Or.inl rfl | exact Or.inr rfl) (pe_lst (pa_cons (pe_tup (pa_cons pe_str (pa_cons (pe_callB (isV_K (K := K) rfl) (by rfl) T.n_isinstance bb_isinstance (pa_cons (pv 0) (pa_cons (pe_glob (v := .ref T.c_BadText) (by rfl) T.g_BadText rfl) pa_nil))) pa_nil))) (pa_cons (pe_tup (pa_cons pe_str (pa_cons (pe_callB (isV_K (K := K) rfl) (by rfl) T.n_isinstance bb_isinstance (pa_cons (pv 0) (pa_cons (pe_glob (v := .ref T.c_BadSet) (by rfl) T.g_BadSet rfl) pa_nil))) pa_nil))) (pa_cons (pe_tup (pa_cons pe_str (pa_cons (pe_callB (isV_K (K := K) rfl) (by rfl) T.n_isinstance bb_isinstance (pa_cons (pv 0) (pa_cons (pe_glob (v := .ref T.c_BadValue) (by rfl) T.g_BadValue rfl) pa_nil))) pa_nil))) pa_nil))))) (pss_cons (ps_set (i := 1) sc_law_kinds.nd rfl (by first | exact Or.inl rfl | exact Or.inr rfl) (pe_op op_cat (pv 1) (pe_lst (pa_cons (pe_tup (pa_cons pe_str (pa_cons (pe_callB (isV_K (K := K) rfl) (by rfl) T.n_isinstance bb_isinstance (pa_cons (pv 0) (pa_cons (pe_glob (v := .ref T.c_BadAsking) (by rfl) T.g_BadAsking rfl) pa_nil))) pa_nil))) (pa_cons (pe_tup (pa_cons pe_str (pa_cons (pe_callB (isV_K (K := K) rfl) (by rfl) T.n_isinstance bb_isinstance (pa_cons (pv 0) (pa_cons (pe_glob (v := .ref T.c_NoGate) (by rfl) T.g_NoGate rfl) pa_nil))) pa_nil))) pa_nil))))) (pss_cons (ps_set (i := 1) sc_law_kinds.nd rfl (by first | exact Or.inl rfl | exact Or.inr rfl) (pe_op op_cat (pv 1) (pe_lst (pa_cons (pe_tup (pa_cons pe_str (pa_cons (pe_callB (isV_K (K := K) rfl) (by rfl) T.n_isinstance bb_isinstance (pa_cons (pv 0) (pa_cons (pe_glob (v := .ref T.c_NoRule) (by rfl) T.g_NoRule rfl) pa_nil))) pa_nil))) (pa_cons (pe_tup (pa_cons pe_str (pa_cons (pe_callB (isV_K (K := K) rfl) (by rfl) T.n_isinstance bb_isinstance (pa_cons (pv 0) (pa_cons (pe_glob (v := .ref T.c_TooMuch) (by rfl) T.g_TooMuch rfl) pa_nil))) pa_nil))) (pa_cons (pe_tup (pa_cons pe_str (pa_cons (pe_callB (isV_K (K := K) rfl) (by rfl) T.n_isinstance bb_isinstance (pa_cons (pv 0) (pa_cons (pe_glob (v := .ref T.c_BadWish) (by rfl) T.g_BadWish rfl) pa_nil))) pa_nil))) pa_nil)))))) (pss_cons (ps_set (i := 1) sc_law_kinds.nd rfl (by first | exact Or.inl rfl | exact Or.inr rfl) (pe_op op_cat (pv 1) (pe_lst (pa_cons (pe_tup (pa_cons pe_str (pa_cons (pe_callB (isV_K (K := K) rfl) (by rfl) T.n_isinstance bb_isinstance (pa_cons (pv 0) (pa_cons (pe_glob (v := .ref T.c_NoName) (by rfl) T.g_NoName rfl) pa_nil))) pa_nil))) (pa_cons (pe_tup (pa_cons pe_str (pa_cons (pe_callB (isV_K (K := K) rfl) (by rfl) T.n_isinstance bb_isinstance (pa_cons (pv 0) (pa_cons (pe_glob (v := .ref T.c_Ring) (by rfl) T.g_Ring rfl) pa_nil))) pa_nil))) pa_nil))))) (pss_cons (ps_set (i := 1) sc_law_kinds.nd rfl (by first | exact Or.inl rfl | exact Or.inr rfl) (pe_op op_cat (pv 1) (pe_lst (pa_cons (pe_tup (pa_cons pe_str (pa_cons (pe_callB (isV_K (K := K) rfl) (by rfl) T.n_isinstance bb_isinstance (pa_cons (pv 0) (pa_cons (pe_glob (v := .ref T.c_NoVersion) (by rfl) T.g_NoVersion rfl) pa_nil))) pa_nil))) (pa_cons (pe_tup (pa_cons pe_str (pa_cons (pe_callB (isV_K (K := K) rfl) (by rfl) T.n_isinstance bb_isinstance (pa_cons (pv 0) (pa_cons (pe_glob (v := .ref T.c_InUse) (by rfl) T.g_InUse rfl) pa_nil))) pa_nil))) pa_nil))))) (pss_cons (ps_ret (pe_op op_cat (pe_lc (own := [("_law_word", 2), ("_law_fits", 3)]) (g := (gTup K 2 (gCons (gName 2) (gCons (gName 3) gNil)))) rfl sc_law_kinds.nd (piL_K (K := K) rfl (pv 1)) (blkOk_by (N := ["_law_e", "_law_some", "_law_word", "_law_fits"]) (sc := defScope s_law_kinds) (by decide +kernel)) (fun _ _ _ _ _ => by exact (pg_tup rfl (pgs_cons (pg_name (i := 2) sc_law_kinds.nd rfl (by first | exact Or.inl rfl | exact Or.inr rfl)) (pgs_cons (pg_name (i := 3) sc_law_kinds.nd rfl (by first | exact Or.inl rfl | exact Or.inr rfl)) pgs_nil)))) (fun _ _ _ _ _ => by exact (pts_one (pt_val (pv 3)))) (fun _ _ _ _ _ => by exact (pv 2))) (pe_op op_rep (pe_lst (pa_cons pe_str pa_nil)) (pe_callTy call_int1 (by rfl) T.n_int bb_int (pa_cons (pe_not (pe_callB (isV_K (K := K) rfl) (by rfl) T.n_isinstance bb_isinstance (pa_cons (pv 0) (pa_cons (pe_bltn (v := .ty "ValueError") (by rfl) T.n_ValueError bb_ValueError rfl) pa_nil)))) pa_nil))))) pss_nil)))))), ?_⟩
    unfold m_law_kinds at hm
    obtain ⟨H0, e0, q⟩ := heapN q
    obtain ⟨G, A, g0, r_law_e⟩ : exists G, At G H [] ∧ Gx H0 G ∧ rp K G v_law_e x_law_e := ⟨H, At.nil H, e0, r_law_e⟩
    clear e0
    obtain ⟨x_law_some, hx, hm⟩ := bnd hm
    refine sf_asg (eo_lst (lo_cons ((x_pair (eb_str (K := K)) (x_isV (rs := ["NoName", "Ring"]) (b := (fun c => decide (c = "BadText"))) (cv := .ref T.c_BadText) (uu := .ref T.c_BadText) (fun _ h => h) T.ki_BadText (eb_v rfl (Rp.mono A.ex r_law_e))))).own (lo_cons ((x_pair (eb_str (K := K)) (x_isV (rs := ["NoName", "Ring"]) (b := (fun c => decide (c = "BadSet"))) (cv := .ref T.c_BadSet) (uu := .ref T.c_BadSet) (fun _ h => h) T.ki_BadSet (eb_v rfl (Rp.mono A.ex r_law_e))))).own (lo_cons ((x_pair (eb_str (K := K)) (x_isV (rs := ["NoName", "Ring"]) (b := (fun c => decide (c = "BadValue"))) (cv := .ref T.c_BadValue) (uu := .ref T.c_BadValue) (fun _ h => h) T.ki_BadValue (eb_v rfl (Rp.mono A.ex r_law_e))))).own lo_nil)))) hx A fun v_law_some G159 H160 g A r_law_some => ?_
    replace r_law_e := Rp.mono g r_law_e
    replace g0 := g0.trans g
    obtain ⟨x_law_some, hx, hm⟩ := bnd hm
    refine sf_asg (eo_cat (eo_v rfl r_law_some) (eo_lst (lo_cons ((x_pair (eb_str (K := K)) (x_isV (rs := ["NoName", "Ring"]) (b := (fun c => decide (c = "BadAsking"))) (cv := .ref T.c_BadAsking) (uu := .ref T.c_BadAsking) (fun _ h => h) T.ki_BadAsking (eb_v rfl (Rp.mono A.ex r_law_e))))).own (lo_cons ((x_pair (eb_str (K := K)) (x_isV (rs := ["NoName", "Ring"]) (b := (fun c => decide (c = "NoGate"))) (cv := .ref T.c_NoGate) (uu := .ref T.c_NoGate) (fun _ h => h) T.ki_NoGate (eb_v rfl (Rp.mono A.ex r_law_e))))).own lo_nil)))) hx A fun v_law_some G161 H162 g A r_law_some => ?_
    replace r_law_e := Rp.mono g r_law_e
    replace g0 := g0.trans g
    obtain ⟨x_law_some, hx, hm⟩ := bnd hm
    refine sf_asg (eo_cat (eo_v rfl r_law_some) (eo_lst (lo_cons ((x_pair (eb_str (K := K)) (x_isV (rs := ["NoName", "Ring"]) (b := (fun c => decide (c = "NoRule"))) (cv := .ref T.c_NoRule) (uu := .ref T.c_NoRule) (fun _ h => h) T.ki_NoRule (eb_v rfl (Rp.mono A.ex r_law_e))))).own (lo_cons ((x_pair (eb_str (K := K)) (x_isV (rs := ["NoName", "Ring"]) (b := (fun c => decide (c = "TooMuch"))) (cv := .ref T.c_TooMuch) (uu := .ref T.c_TooMuch) (fun _ h => h) T.ki_TooMuch (eb_v rfl (Rp.mono A.ex r_law_e))))).own (lo_cons ((x_pair (eb_str (K := K)) (x_isV (rs := ["NoName", "Ring"]) (b := (fun c => decide (c = "BadWish"))) (cv := .ref T.c_BadWish) (uu := .ref T.c_BadWish) (fun _ h => h) T.ki_BadWish (eb_v rfl (Rp.mono A.ex r_law_e))))).own lo_nil))))) hx A fun v_law_some G163 H164 g A r_law_some => ?_
    replace r_law_e := Rp.mono g r_law_e
    replace g0 := g0.trans g
    obtain ⟨x_law_some, hx, hm⟩ := bnd hm
    refine sf_asg (eo_cat (eo_v rfl r_law_some) (eo_lst (lo_cons ((x_pair (eb_str (K := K)) (x_isV (rs := ["NoName", "Ring"]) (b := (fun c => decide (c = "NoName"))) (cv := .ref T.c_NoName) (uu := .ref T.c_NoName) (fun _ h => h) T.ki_NoName (eb_v rfl (Rp.mono A.ex r_law_e))))).own (lo_cons ((x_pair (eb_str (K := K)) (x_isV (rs := ["NoName", "Ring"]) (b := (fun c => decide (c = "Ring"))) (cv := .ref T.c_Ring) (uu := .ref T.c_Ring) (fun _ h => h) T.ki_Ring (eb_v rfl (Rp.mono A.ex r_law_e))))).own lo_nil)))) hx A fun v_law_some G165 H166 g A r_law_some => ?_
    replace r_law_e := Rp.mono g r_law_e
    replace g0 := g0.trans g
    obtain ⟨x_law_some, hx, hm⟩ := bnd hm
    refine sf_asg (eo_cat (eo_v rfl r_law_some) (eo_lst (lo_cons ((x_pair (eb_str (K := K)) (x_isV (rs := ["NoName", "Ring"]) (b := (fun c => decide (c = "NoVersion"))) (cv := .ref T.c_NoVersion) (uu := .ref T.c_NoVersion) (fun _ h => h) T.ki_NoVersion (eb_v rfl (Rp.mono A.ex r_law_e))))).own (lo_cons ((x_pair (eb_str (K := K)) (x_isV (rs := ["NoName", "Ring"]) (b := (fun c => decide (c = "InUse"))) (cv := .ref T.c_InUse) (uu := .ref T.c_InUse) (fun _ h => h) T.ki_InUse (eb_v rfl (Rp.mono A.ex r_law_e))))).own lo_nil)))) hx A fun v_law_some G167 H168 g A r_law_some => ?_
    replace r_law_e := Rp.mono g r_law_e
    replace g0 := g0.trans g
    exact sr_n (x_cat ((x_lc (i_list (es_b (eb_v rfl (Rp.mono A.ex r_law_some)))) (tg_p tg_n tg_n) (bi_p (bi_n (by decide)) (bi_n (by decide))) (fun y170 σc Hc gh170 hb170 => by obtain ⟨_, ⟨c170v_law_word, c170r_law_word, rfl⟩, ⟨c170v_law_fits, c170r_law_fits, rfl⟩⟩ := hb170; exact (et_b (eb_v rfl c170r_law_fits))) (fun y170 σc Hc gh170 hb170 => by obtain ⟨_, ⟨c170v_law_word, c170r_law_word, rfl⟩, ⟨c170v_law_fits, c170r_law_fits, rfl⟩⟩ := hb170; exact (eb_v rfl c170r_law_word)))).b ((x_rep ((x_lst (l_cons (eb_str (K := K)) (l_nil (K := K))))).b (x_intB (eb_not (x_isV (rs := ["NoName", "Ring"]) (b := (fun _ => true)) (cv := .ty "ValueError") (uu := .type "ValueError") (fun _ h => h) T.ki_ValueError (eb_v rfl (Rp.mono A.ex r_law_e))))))).b) hm fun p ws H hp e h r => q p ws H ((g0.trans A.ex).back hp) ((g0.trans A.ex).trans e) h r
/-! _law_odd -/
def m_law_odd (x_law_mixed_here : Int) (x_law_people : (List Str)) : Option Dy := ((o1 szOk (o2 fCons (((some ())).map (ToY.to : Unit -> Dy)) (o2 fCons (((some true)).map (ToY.to : Bool -> Dy)) (o2 fCons (((some (5 : Int))).map (ToY.to : Int -> Dy)) (o2 fCons (((some (Str.ofString ""))).map (ToY.to : Str -> Dy)) (o2 fCons (((some (Str.ofString "A"))).map (ToY.to : Str -> Dy)) (o2 fCons (((some (Str.ofString "ninesigns"))).map (ToY.to : Str -> Dy)) (o2 fCons (((o2 (fun x y => if x.length + y.length ≤ 100000 then some (x ++ y) else none) (o2 ix (some x_law_people) (some (0 : Int))) (some (Str.ofString " ")))).map (ToY.to : Str -> Dy)) (o2 fCons (((o1 fUpper (o2 ix (some x_law_people) (some (0 : Int))))).map (ToY.to : Str -> Dy)) (o2 fCons (((o1 fTup (o2 fCons (((o2 ix (some x_law_people) (some (0 : Int)))).map (ToY.to : Str -> Dy)) (some ([] : List Dy))))).map (ToY.to : (Tl Dy) -> Dy)) (o2 fCons (((o1 szOk (o2 fCons (((o2 ix (some x_law_people) (some (0 : Int)))).map (ToY.to : Str -> Dy)) (some ([] : List Dy))))).map (ToY.to : (List Dy) -> Dy)) (o2 fCons (some Dy.dct) (some ([] : List Dy))))))))))))))).bind fun x_law_some => ((o2 ix (o2 fCat (some x_law_some) (o1 szOk (o2 fCons (((some (Str.ofString "a1"))).map (ToY.to : Str -> Dy)) (o2 fCons (((some (Str.ofString "a-b"))).map (ToY.to : Str -> Dy)) (some ([] : List Dy)))))) (o2 fMod (some x_law_mixed_here) (some (13 : Int))))).bind fun y171 => some ((y171))
def p_law_odd (a : Int × (List Str)) : List Slot := [fz a.1, fz a.2]
def q_law_odd (_ : Int × (List Str)) (b : Dy) : List Slot := fz b :: [.un, .un]
abbrev S_law_odd (K : Fg) : Sp := PSe K p_law_odd (fun a => (m_law_odd a.1 a.2).map (Sum.inl (β := Empty))) q_law_odd Empty.elim (fun _ e => e.elim)
set_option maxHeartbeats 4000000 in
theorem ok_law_odd {P : Program} {w : World} {K : Fg} {mg : Str → Option Value} {base : Heap} (T : Txt K mg) : FnOk P w K mg base CX0 1 T.a_law_odd T.d_law_odd ["_law_mixed_here", "_law_people"] (S_law_odd K) := by
  refine T.F_law_odd.ok sc_law_odd (fun vs H Q E h => ?_) (fun cdv A0 outer s H vs Q E0 hr h => ?_)
  · obtain ⟨G, L, a, r, E, _⟩ := h
    have := E.len
    rw [List.length_map] at this
    exact this
  · obtain ⟨G, L, a, r, E, hf, q, _⟩ := h
    obtain ⟨x_law_mixed_here, x_law_people⟩ := a
    obtain ⟨r_fn, hm, rfl⟩ := Option.map_eq_some_iff.mp hf
    have hl := E.len
    rw [List.length_map] at hl
    obtain ⟨v_law_mixed_here, v_law_people, rfl⟩ : exists v_law_mixed_here v_law_people, vs = [v_law_mixed_here, v_law_people] := by
      match vs, hl with
      | [v_law_mixed_here, v_law_people], _ => exact ⟨v_law_mixed_here, v_law_people, rfl⟩
    refine ⟨_, (pss_cons (ps_set (i := 2) sc_law_odd.nd rfl (by first | exact Or.inl rfl | exact Or.inr rfl) (pe_lst (pa_cons pe_non (pa_cons pe_bl (pa_cons pe_int (pa_cons pe_str (pa_cons pe_str (pa_cons pe_str (pa_cons (pe_op op_add_str (pe_ix (ixL_K (K := K) rfl) (pv 1) pe_int (fun _ _ => rfl)) pe_str) (pa_cons (pe_bm0 PySem.F.plainAttrs_str PySem.F.slot_str_upper PySem.F.type_str_upper mt_upper (pe_ix (ixL_K (K := K) rfl) (pv 1) pe_int (fun _ _ => rfl))) (pa_cons (pe_tup (pa_cons (pe_ix (ixL_K (K := K) rfl) (pv 1) pe_int (fun _ _ => rfl)) pa_nil)) (pa_cons (pe_lst (pa_cons (pe_ix (ixL_K (K := K) rfl) (pv 1) pe_int (fun _ _ => rfl)) pa_nil)) (pa_cons pe_dnewK pa_nil))))))))))))) (pss_cons (ps_ret (pe_ix (ixL_K (K := K) rfl) (pe_op op_cat (pv 2) (pe_lst (pa_cons pe_str (pa_cons pe_str pa_nil)))) (pe_op op_mod (pv 0) pe_int) (fun _ _ => rfl))) pss_nil)), ?_⟩
    unfold m_law_odd at hm
    replace E : Env K G G H L _ ([fz (x_law_mixed_here : Int), fz (x_law_people : (List Str))] ++ List.replicate 1 .un) := E.start (vs := [v_law_mixed_here, v_law_people]) 1
    have g0 : Gx G G := Gx.rfl
    clear hf
    obtain ⟨x_law_some, hx, hm⟩ := bnd hm
    refine se_asg (eo_lst (lo_cons (eo_conv (f := (ToY.to : Unit -> Dy)) (fun r => c_toY r) ((eb_non (K := K))).own) (lo_cons (eo_conv (f := (ToY.to : Bool -> Dy)) (fun r => c_toY r) ((eb_bl (K := K))).own) (lo_cons (eo_conv (f := (ToY.to : Int -> Dy)) (fun r => c_toY r) ((eb_int (K := K))).own) (lo_cons (eo_conv (f := (ToY.to : Str -> Dy)) (fun r => c_toY r) ((eb_str (K := K))).own) (lo_cons (eo_conv (f := (ToY.to : Str -> Dy)) (fun r => c_toY r) ((eb_str (K := K))).own) (lo_cons (eo_conv (f := (ToY.to : Str -> Dy)) (fun r => c_toY r) ((eb_str (K := K))).own) (lo_cons (eo_conv (f := (ToY.to : Str -> Dy)) (fun r => c_toY r) ((x_catS (x_ixL (E.eb.get (i := 1) rfl) (eb_int (K := K))) (eb_str (K := K)))).own) (lo_cons (eo_conv (f := (ToY.to : Str -> Dy)) (fun r => c_toY r) ((x_upper (x_ixL (E.eb.get (i := 1) rfl) (eb_int (K := K))))).own) (lo_cons (eo_conv (f := (ToY.to : (Tl Dy) -> Dy)) (fun r => c_toY r) (eo_tup (lo_cons (eo_conv (f := (ToY.to : Str -> Dy)) (fun r => c_toY r) ((x_ixL (E.eb.get (i := 1) rfl) (eb_int (K := K)))).own) lo_nil))) (lo_cons (eo_conv (f := (ToY.to : (List Dy) -> Dy)) (fun r => c_toY r) (eo_lst (lo_cons (eo_conv (f := (ToY.to : Str -> Dy)) (fun r => c_toY r) ((x_ixL (E.eb.get (i := 1) rfl) (eb_int (K := K)))).own) lo_nil))) (lo_cons eo_dct lo_nil)))))))))))) hx E fun σ G H _ E => ?_
    obtain ⟨y171, hy171, hm⟩ := bnd hm
    obtain rfl := Option.some.inj hm
    exact E.run (eo_ixL (eo_cat (E.ef.get (i := 2) rfl) (eo_lst (lo_cons (eo_conv (f := (ToY.to : Str -> Dy)) (fun r => c_toY r) ((eb_str (K := K))).own) (lo_cons (eo_conv (f := (ToY.to : Str -> Dy)) (fun r => c_toY r) ((eb_str (K := K))).own) lo_nil)))) (x_mod (E.eb.get (i := 0) rfl) (eb_int (K := K)))) hy171 fun v G2 H2 _ _ E2 rv => q _ rfl v G2 H2 ((E2.rebase g0).fin trivial rv)
/-! _law_thing -/
def m_law_thing (x_law_mixed_here : Int) (x_law_people : (List Str)) (x_law_groups : (List Str)) : Option Dy := ((o2 fMod (some x_law_mixed_here) (some (9 : Int)))).bind fun x_law_way => ((o2 fEq (some x_law_way) (some (0 : Int)))).bind fun b172 => if b172 = true then (((o2 fDiv (some x_law_mixed_here) (some (9 : Int)))).bind fun y173 => ((some x_law_people)).bind fun y174 => (m_law_odd y173 y174).bind fun r175 => some (r175)) else (((oIf (o2 fLt (some x_law_way) (some (4 : Int))) (some x_law_people) (some x_law_groups))).bind fun x_law_some => ((((o2 ix (some x_law_some) (o2 fMod (o2 fDiv (some x_law_mixed_here) (some (9 : Int))) (o1 fLen (some x_law_some))))).map (ToY.to : Str -> Dy))).bind fun y176 => some ((y176)))
def p_law_thing (a : Int × (List Str) × (List Str)) : List Slot := [fz a.1, fz a.2.1, fz a.2.2]
def q_law_thing (_ : Int × (List Str) × (List Str)) (b : Dy) : List Slot := fz b :: [.un, .un, .un]
abbrev S_law_thing (K : Fg) : Sp := PSe K p_law_thing (fun a => (m_law_thing a.1 a.2.1 a.2.2).map (Sum.inl (β := Empty))) q_law_thing Empty.elim (fun _ e => e.elim)
set_option maxHeartbeats 4000000 in
theorem ok_law_thing {P : Program} {w : World} {K : Fg} {mg : Str → Option Value} {base : Heap} (T : Txt K mg) : FnOk P w K mg base CX0 2 T.a_law_thing T.d_law_thing ["_law_mixed_here", "_law_people", "_law_groups"] (S_law_thing K) := by
  refine T.F_law_thing.ok sc_law_thing (fun vs H Q E h => ?_) (fun cdv A0 outer s H vs Q E0 hr h => ?_)
  · obtain ⟨G, L, a, r, E, _⟩ := h
    have := E.len
    rw [List.length_map] at this
    exact this
  · obtain ⟨G, L, a, r, E, hf, q, _⟩ := h
    obtain ⟨x_law_mixed_here, x_law_people, x_law_groups⟩ := a
    obtain ⟨r_fn, hm, rfl⟩ := Option.map_eq_some_iff.mp hf
    have hl := E.len
    rw [List.length_map] at hl
    obtain ⟨v_law_mixed_here, v_law_people, v_law_groups, rfl⟩ : exists v_law_mixed_here v_law_people v_law_groups, vs = [v_law_mixed_here, v_law_people, v_law_groups] := by
      match vs, hl with
      | [v_law_mixed_here, v_law_people, v_law_groups], _ => exact ⟨v_law_mixed_here, v_law_people, v_law_groups, rfl⟩
    refine ⟨_, (pss_cons (ps_set (i := 3) sc_law_thing.nd rfl (by first | exact Or.inl rfl | exact Or.inr rfl) (pe_op op_mod (pv 0) pe_int)) (pss_cons (ps_if (pt_cmpR (opEq_K (K := K) rfl hr.units) (pv 3) pe_int (nomark _)) (pss_cons (ps_ret (pe_call (ok_law_odd T) (hr.mono (by decide)) (by rfl) T.g_law_odd T.F_law_odd.kp T.b_law_odd .nil pass0 (pa_cons (pe_op op_fdiv (pv 0) pe_int) (pa_cons (pv 1) pa_nil)))) pss_nil) pss_nil) (pss_cons (ps_set (i := 4) sc_law_thing.nd rfl (by first | exact Or.inl rfl | exact Or.inr rfl) (pe_ifExp (pt_cmpR op_lt (pv 3) pe_int (nomark _)) (pv 1) (pv 2))) (pss_cons (ps_ret (pe_ix (ixL_K (K := K) rfl) (pv 4) (pe_op op_mod (pe_op op_fdiv (pv 0) pe_int) (pe_callB (len_K (K := K) rfl) (by rfl) T.n_len bb_len (pa_cons (pv 4) pa_nil))) (fun _ _ => rfl))) pss_nil)))), ?_⟩
    unfold m_law_thing at hm
    replace E : Env K G G H L _ ([fz (x_law_mixed_here : Int), fz (x_law_people : (List Str)), fz (x_law_groups : (List Str))] ++ List.replicate 2 .un) := E.start (vs := [v_law_mixed_here, v_law_people, v_law_groups]) 2
    have g0 : Gx G G := Gx.rfl
    clear hf
    obtain ⟨x_law_way, hx, hm⟩ := bnd hm
    refine se_asg ((x_mod (E.eb.get (i := 0) rfl) (eb_int (K := K)))).own hx E fun σ G H _ E => ?_
    obtain ⟨b172, hb172, hm⟩ := bnd hm
    refine se_if (et_test (x_eq (by decide) (E.eb.get (i := 3) rfl) (eb_int (K := K)))) hb172 E (fun eb H E => ?_) (fun eb H E => ?_)
    · subst eb
      replace hm := itt hm
      obtain ⟨y173, hy173, hm⟩ := bnd hm
      obtain ⟨y174, hy174, hm⟩ := bnd hm
      obtain ⟨r175, hr175, hm⟩ := bnd hm
      obtain rfl := Option.some.inj hm
      exact sr_callF (a := (y173, y174)) (n := 2) rfl (fun _ => rfl) E (ef_cons ((x_div (E.eb.get (i := 0) rfl) (eb_int (K := K)))).own hy173 (ef_cons (E.ef.get (i := 1) rfl) hy174 ef_nil)) (congrArg (Option.map Sum.inl) hr175) fun v G2 H2 E2 rv => q _ rfl v G2 H2 ((E2.rebase g0).fin trivial rv)
    · subst eb
      replace hm := itf hm
      obtain ⟨x_law_some, hx, hm⟩ := bnd hm
      refine se_asg (eo_if (et_test (x_lt (E.eb.get (i := 3) rfl) (eb_int (K := K)))) (E.ef.get (i := 1) rfl) (E.ef.get (i := 2) rfl)) hx E fun σ G H _ E => ?_
      obtain ⟨y176, hy176, hm⟩ := bnd hm
      obtain rfl := Option.some.inj hm
      exact E.run (eo_conv (f := (ToY.to : Str -> Dy)) (fun r => c_toY r) ((x_ixL (E.eb.get (i := 4) rfl) (x_mod (x_div (E.eb.get (i := 0) rfl) (eb_int (K := K))) (x_lenL (E.eb.get (i := 4) rfl))))).own) hy176 fun v G2 H2 _ _ E2 rv => q _ rfl v G2 H2 ((E2.rebase g0).fin trivial rv)
/-! _law_put_due -/
def m_law_put_due (x_law_rows : (Ds (List Str))) (x_law_people : (List Str)) (x_law_group : Dy) (x_law_member : Dy) : Option Str := ((oOr (oNot (o1 (fIsY "str") (some x_law_group))) (oOr (oNot (o1 (fS Txt.isalpha) (o1 yStr (some x_law_group)))) (oOr (oNot (o1 (fS Txt.islower) (o1 yStr (some x_law_group)))) (oOr (o2 fGt (o1 fLenX (o1 yStr (some x_law_group))) (some (8 : Int))) (o2 fInL (o1 yStr (some x_law_group)) (some x_law_people))))))).bind fun b177 => if b177 = true then (some (Str.ofString "name")) else (((oOr (oNot (o1 (fIsY "str") (some x_law_member))) (oAnd (o2 fNinL (o1 yStr (some x_law_member)) (some x_law_people)) (oAnd (o2 fNinD (o1 yStr (some x_law_member)) (some x_law_rows)) (o2 fNeP (o1 yStr (some x_law_member)) (o1 yStr (some x_law_group))))))).bind fun b179 => if b179 = true then (some (Str.ofString "name")) else (oIf (o2 fInL (o1 yStr (some x_law_group)) (o2 m_law_reached (some x_law_rows) (o1 yStr (some x_law_member)))) (some (Str.ofString "ring")) (some (Str.ofString ""))))
set_option maxHeartbeats 4000000 in
theorem ok_law_put_due {P : Program} {w : World} {K : Fg} {mg : Str → Option Value} {base : Heap} (T : Txt K mg) : FnOk P w K mg base CX0 2 T.a_law_put_due T.d_law_put_due ["_law_rows", "_law_people", "_law_group", "_law_member"] (PSb K (A4 K m_law_put_due)) := by
  refine T.F_law_put_due.ok sc_law_put_due (fun vs H Q E h => ?_) (fun cdv A0 outer s H vs Q E hr h => ?_)
  · obtain ⟨r, ⟨v_law_rows, v_law_people, v_law_group, v_law_member, x_law_rows, x_law_people, x_law_group, x_law_member, rfl, r_law_rows, r_law_people, r_law_group, r_law_member, hm⟩, q⟩ := h
    rfl
  · obtain ⟨r_fn, ⟨v_law_rows, v_law_people, v_law_group, v_law_member, x_law_rows, x_law_people, x_law_group, x_law_member, rfl, r_law_rows, r_law_people, r_law_group, r_law_member, hm⟩, q⟩ := h
    refine ⟨_, (pss_cons (ps_if (PW.pt (pw_or (pt_not (pt_val (pe_callB (isi_K (K := K) rfl) (by rfl) T.n_isinstance bb_isinstance (pa_cons (pv 2) (pa_cons (pe_bltn (v := .ty "str") (by rfl) T.n_str bb_str rfl) pa_nil))))) (pw_or (pt_not (pt_val (pe_bm0 PySem.F.plainAttrs_str PySem.F.slot_str_isalpha PySem.F.type_str_isalpha mt_isalpha (pv 2)))) (pw_or (pt_not (pt_val (pe_bm0 PySem.F.plainAttrs_str PySem.F.slot_str_islower PySem.F.type_str_islower mt_islower (pv 2)))) (pw_or (pt_cmpR op_gt (pe_callB call_len_str (by rfl) T.n_len bb_len (pa_cons (pv 2) pa_nil)) pe_int (nomark _)) (pw_or1 (pt_cmpR (opIn_K (K := K) rfl) (pv 2) (pv 1) (by rfl)))))))) (pss_cons (ps_ret pe_str) pss_nil) pss_nil) (pss_cons (ps_if (PW.pt (pw_or (pt_not (pt_val (pe_callB (isi_K (K := K) rfl) (by rfl) T.n_isinstance bb_isinstance (pa_cons (pv 3) (pa_cons (pe_bltn (v := .ty "str") (by rfl) T.n_str bb_str rfl) pa_nil))))) (pw_or1 (PW.pt (pw_and (pt_cmpR (opNin_K (K := K) rfl) (pv 3) (pv 1) (by rfl)) (pw_and (pt_cmp (pc_dnotin (hu_of hr) (pv 3) (pv 0))) (pw_and1 (pt_cmpR (opNe_K (K := K) rfl hr.units) (pv 3) (pv 2) (nomark _))))))))) (pss_cons (ps_ret pe_str) pss_nil) pss_nil) (pss_cons (ps_ret (pe_ifExp (pt_cmpR (opIn_K (K := K) rfl) (pv 2) (pe_call (ok_law_reached T) (hr.mono (by decide)) (by rfl) T.g_law_reached T.F_law_reached.kp T.b_law_reached .nil pass0 (pa_cons (pv 0) (pa_cons (pv 3) pa_nil))) (by rfl)) pe_str pe_str)) pss_nil))), ?_⟩
    unfold m_law_put_due at hm
    obtain ⟨H0, e0, q⟩ := heapB q
    obtain ⟨G, A, g0, r_law_rows, r_law_people, r_law_group, r_law_member⟩ : exists G, At G H [] ∧ Gx H0 G ∧ rp K G v_law_rows x_law_rows ∧ rp K G v_law_people x_law_people ∧ rp K G v_law_group x_law_group ∧ rp K G v_law_member x_law_member := ⟨H, At.nil H, e0, r_law_rows, r_law_people, r_law_group, r_law_member⟩
    clear e0
    obtain ⟨b177, hb177, hm⟩ := bnd hm
    refine st_if (et_or (et_not (et_b (x_isiY kitY_str (eb_v rfl (Rp.mono A.ex r_law_group))))) (et_or (et_not (et_b (x_sB (x_cast (fun h r => y_str h r) (eb_v rfl (Rp.mono A.ex r_law_group)))))) (et_or (et_not (et_b (x_sB (x_cast (fun h r => y_str h r) (eb_v rfl (Rp.mono A.ex r_law_group)))))) (et_or (et_test (x_gt (x_lenX (x_cast (fun h r => y_str h r) (eb_v rfl (Rp.mono A.ex r_law_group)))) (eb_int (K := K)))) (et_test (x_inL (x_cast (fun h r => y_str h r) (eb_v rfl (Rp.mono A.ex r_law_group))) (eb_v rfl (Rp.mono A.ex r_law_people)))))))) hb177 (fun eb177 H178 e => ?_) (fun eb177 H178 e => ?_)
    · subst eb177
      replace hm := itt hm
      replace A := A.grow e
      exact sr_b (u := fun _ _ _ => True) (σ := []) (eb_str (K := K)) hm fun w H e r => q w H ((g0.trans A.ex).trans e) r
    · subst eb177
      replace hm := itf hm
      replace A := A.grow e
      obtain ⟨b179, hb179, hm⟩ := bnd hm
      refine st_if (et_or (et_not (et_b (x_isiY kitY_str (eb_v rfl (Rp.mono A.ex r_law_member))))) (et_and (et_test (x_ninL (x_cast (fun h r => y_str h r) (eb_v rfl (Rp.mono A.ex r_law_member))) (eb_v rfl (Rp.mono A.ex r_law_people)))) (et_and (et_test (x_ninD (x_cast (fun h r => y_str h r) (eb_v rfl (Rp.mono A.ex r_law_member))) (eb_v rfl (Rp.mono A.ex r_law_rows)))) (et_test (x_neP (by decide) (x_cast (fun h r => y_str h r) (eb_v rfl (Rp.mono A.ex r_law_member))) (x_cast (fun h r => y_str h r) (eb_v rfl (Rp.mono A.ex r_law_group)))))))) hb179 (fun eb179 H180 e => ?_) (fun eb179 H180 e => ?_)
      · subst eb179
        replace hm := itt hm
        replace A := A.grow e
        exact sr_b (u := fun _ _ _ => True) (σ := []) (eb_str (K := K)) hm fun w H e r => q w H ((g0.trans A.ex).trans e) r
      · subst eb179
        replace hm := itf hm
        replace A := A.grow e
        exact sr_b (eb_if (et_test (x_inL (x_cast (fun h r => y_str h r) (eb_v rfl (Rp.mono A.ex r_law_group))) ((en_call (em2 (eb_v rfl (Rp.mono A.ex r_law_rows)) (x_cast (fun h r => y_str h r) (eb_v rfl (Rp.mono A.ex r_law_member)))))).b)) (eb_str (K := K)) (eb_str (K := K))) hm fun w H e r => q w H ((g0.trans A.ex).trans e) r
/-! _law_take_due -/
def m_law_take_due (x_law_rows : (Ds (List Str))) (x_law_group : Dy) (x_law_member : Dy) : Option Str := ((oOr (oNot (o1 (fIsY "str") (some x_law_group))) (oOr (o2 fNinD (o1 yStr (some x_law_group)) (some x_law_rows)) (o2 fNinY (some x_law_member) (o2 fGetD (some x_law_rows) (o1 yStr (some x_law_group))))))).bind fun b181 => if b181 = true then (some (Str.ofString "name")) else (some (Str.ofString ""))
set_option maxHeartbeats 4000000 in
theorem ok_law_take_due {P : Program} {w : World} {K : Fg} {mg : Str → Option Value} {base : Heap} (T : Txt K mg) : FnOk P w K mg base CX0 1 T.a_law_take_due T.d_law_take_due ["_law_rows", "_law_group", "_law_member"] (PSb K (A3 K m_law_take_due)) := by
  refine T.F_law_take_due.ok sc_law_take_due (fun vs H Q E h => ?_) (fun cdv A0 outer s H vs Q E hr h => ?_)
  · obtain ⟨r, ⟨v_law_rows, v_law_group, v_law_member, x_law_rows, x_law_group, x_law_member, rfl, r_law_rows, r_law_group, r_law_member, hm⟩, q⟩ := h
    rfl
  · obtain ⟨r_fn, ⟨v_law_rows, v_law_group, v_law_member, x_law_rows, x_law_group, x_law_member, rfl, r_law_rows, r_law_group, r_law_member, hm⟩, q⟩ := h
    refine ⟨_, (pss_cons (ps_if (PW.pt (pw_or (pt_not (pt_val (pe_callB (isi_K (K := K) rfl) (by rfl) T.n_isinstance bb_isinstance (pa_cons (pv 1) (pa_cons (pe_bltn (v := .ty "str") (by rfl) T.n_str bb_str rfl) pa_nil))))) (pw_or (pt_cmp (pc_dnotin (hu_of hr) (pv 1) (pv 0))) (pw_or1 (pt_cmpR (op_ninY (K := K) rfl (units65 hr)) (pv 2) (pe_dget (hu_of hr) (pv 0) (pv 1) (fun _ _ => rfl)) (by rfl)))))) (pss_cons (ps_ret pe_str) pss_nil) pss_nil) (pss_cons (ps_ret pe_str) pss_nil)), ?_⟩
    unfold m_law_take_due at hm
    obtain ⟨H0, e0, q⟩ := heapB q
    obtain ⟨G, A, g0, r_law_rows, r_law_group, r_law_member⟩ : exists G, At G H [] ∧ Gx H0 G ∧ rp K G v_law_rows x_law_rows ∧ rp K G v_law_group x_law_group ∧ rp K G v_law_member x_law_member := ⟨H, At.nil H, e0, r_law_rows, r_law_group, r_law_member⟩
    clear e0
    obtain ⟨b181, hb181, hm⟩ := bnd hm
    refine st_if (et_or (et_not (et_b (x_isiY kitY_str (eb_v rfl (Rp.mono A.ex r_law_group))))) (et_or (et_test (x_ninD (x_cast (fun h r => y_str h r) (eb_v rfl (Rp.mono A.ex r_law_group))) (eb_v rfl (Rp.mono A.ex r_law_rows)))) (et_test (x_ninY (eb_v rfl (Rp.mono A.ex r_law_member)) (x_getD (eb_v rfl (Rp.mono A.ex r_law_rows)) (x_cast (fun h r => y_str h r) (eb_v rfl (Rp.mono A.ex r_law_group)))))))) hb181 (fun eb181 H182 e => ?_) (fun eb181 H182 e => ?_)
    · subst eb181
      replace hm := itt hm
      replace A := A.grow e
      exact sr_b (u := fun _ _ _ => True) (σ := []) (eb_str (K := K)) hm fun w H e r => q w H ((g0.trans A.ex).trans e) r
    · subst eb181
      replace hm := itf hm
      replace A := A.grow e
      exact sr_b (u := fun _ _ _ => True) (σ := []) (eb_str (K := K)) hm fun w H e r => q w H ((g0.trans A.ex).trans e) r
/-! _law_stands -/
def m_law_stands (x_law_folk : FolkS) (x_law_rows : (Ds (List Str))) : Option Bool := ((o2 fNeP (o1 m_Folk_groups (some x_law_folk)) (o1 fSortD (some x_law_rows)))).bind fun b183 => if b183 = true then (some false) else (o2 fEqP (oComp (fun (y186 : Str) => (some true)) (fun (y186 : Str) => ((o2 m_Folk_straight (some x_law_folk) (((some y186)).map (ToY.to : Str -> Dy))).bind getL)) (o1 fSortD (some x_law_rows))) (oComp (fun (y187 : Str) => (some true)) (fun (y187 : Str) => (o2 fGetD (some x_law_rows) (some y187))) (o1 fSortD (some x_law_rows))))
set_option maxHeartbeats 4000000 in
theorem ok_law_stands {P : Program} {w : World} {K : Fg} {mg : Str → Option Value} {base : Heap} (T : Txt K mg) : FnOk P w K mg base CX0 3 T.a_law_stands T.d_law_stands ["_law_folk", "_law_rows"] (PSb K (A2 K m_law_stands)) := by
  refine T.F_law_stands.ok sc_law_stands (fun vs H Q E h => ?_) (fun cdv A0 outer s H vs Q E hr h => ?_)
  · obtain ⟨r, ⟨v_law_folk, v_law_rows, x_law_folk, x_law_rows, rfl, r_law_folk, r_law_rows, hm⟩, q⟩ := h
    rfl
  · obtain ⟨r_fn, ⟨v_law_folk, v_law_rows, x_law_folk, x_law_rows, rfl, r_law_folk, r_law_rows, hm⟩, q⟩ := h
    refine ⟨_, (pss_cons (ps_if (pt_cmpR (opNe_K (K := K) rfl hr.units) (pe_meth0 (pv 0) T.cl_Folk T.M_Folk_groups (ok_Folk_groups T) (hr.mono (by decide)) T.b_Folk_groups .nil pass0) (pe_callB (call_sortedD rfl) (by rfl) T.n_sorted bb_sorted (pa_cons (pv 1) pa_nil)) (nomark _)) (pss_cons (ps_ret pe_bl) pss_nil) pss_nil) (pss_cons (ps_ret (pe_cmpR (opEq_K (K := K) rfl hr.units) (pe_lc (own := [("_law_group", 2)]) (g := (gName 2)) rfl sc_law_stands.nd (piL_K (K := K) rfl (pe_callB (call_sortedD rfl) (by rfl) T.n_sorted bb_sorted (pa_cons (pv 1) pa_nil))) (blkOk_by (N := ["_law_folk", "_law_rows", "_law_group"]) (sc := defScope s_law_stands) (by decide +kernel)) (fun _ _ _ _ _ => by exact (pg_name (i := 2) sc_law_stands.nd rfl (by first | exact Or.inl rfl | exact Or.inr rfl))) (fun _ _ _ _ _ => by exact pts_nil) (fun _ _ _ _ _ => by exact (pe_meth (pv 0) T.cl_Folk T.M_Folk_straight (ok_Folk_straight T) (hr.mono (by decide)) T.b_Folk_straight .nil (passes_call takes0 (fun _ _ _ _ h => h)) (pa_cons (pv 2) pa_nil)))) (pe_lc (own := [("_law_group", 2)]) (g := (gName 2)) rfl sc_law_stands.nd (piL_K (K := K) rfl (pe_callB (call_sortedD rfl) (by rfl) T.n_sorted bb_sorted (pa_cons (pv 1) pa_nil))) (blkOk_by (N := ["_law_folk", "_law_rows", "_law_group"]) (sc := defScope s_law_stands) (by decide +kernel)) (fun _ _ _ _ _ => by exact (pg_name (i := 2) sc_law_stands.nd rfl (by first | exact Or.inl rfl | exact Or.inr rfl))) (fun _ _ _ _ _ => by exact pts_nil) (fun _ _ _ _ _ => by exact (pe_dget (hu_of hr) (pv 1) (pv 2) (fun _ _ => rfl)))) (nomark _))) pss_nil)), ?_⟩
    unfold m_law_stands at hm
    obtain ⟨H0, e0, q⟩ := heapB q
    obtain ⟨G, A, g0, r_law_folk, r_law_rows⟩ : exists G, At G H [] ∧ Gx H0 G ∧ rp K G v_law_folk x_law_folk ∧ rp K G v_law_rows x_law_rows := ⟨H, At.nil H, e0, r_law_folk, r_law_rows⟩
    clear e0
    obtain ⟨b183, hb183, hm⟩ := bnd hm
    refine st_if (et_test (x_neP (by decide) ((n_m0 (folk_nm (m := "groups") (by decide +kernel)) T.i_Folk (eb_v rfl (Rp.mono A.ex r_law_folk)))).b ((x_sortD (eb_v rfl (Rp.mono A.ex r_law_rows)))).b)) hb183 (fun eb183 H184 e => ?_) (fun eb183 H184 e => ?_)
    · subst eb183
      replace hm := itt hm
      replace A := A.grow e
      exact sr_b (u := fun _ _ _ => True) (σ := []) (eb_bl (K := K)) hm fun w H e r => q w H ((g0.trans A.ex).trans e) r
    · subst eb183
      replace hm := itf hm
      replace A := A.grow e
      exact sr_b (x_eqP (by decide) ((x_lcQ (i_list (es_b ((x_sortD (eb_v rfl (Rp.mono A.ex r_law_rows)))).b)) tg_n (bi_n (by decide)) (fun y186 σc Hc gh186 hb186 => by obtain ⟨c186v_law_group, c186r_law_group, rfl⟩ := hb186; exact t_yes) (fun y186 σc Hc gh186 hb186 => by obtain ⟨c186v_law_group, c186r_law_group, rfl⟩ := hb186; exact (n_y1 (folk_nm (m := "straight") (by decide +kernel)) T.i_Folk (eb_v rfl (Rp.mono gh186 (Rp.mono A.ex r_law_folk))) (x_conv (f := (ToY.to : Str -> Dy)) (fun r => c_toY r) (eb_v rfl c186r_law_group)))))).b ((x_lcO (j_list (es_b ((x_sortD (eb_v rfl (Rp.mono A.ex r_law_rows)))).b)) (by decide) (fun y187 c187v_law_group Hc gh187 c187r_law_group => t_yes) (fun y187 c187v_law_group GG187 Hc gG187 gh187 c187r_law_group => (eo_getD (eo_v rfl (Rp.mono gG187 (Rp.mono A.ex r_law_rows))) (eb_v rfl (Rp.mono gh187 c187r_law_group)))))).b) hm fun w H e r => q w H ((g0.trans A.ex).trans e) r
/-! _law_tried: by hand -/
/-! _law_done: by hand -/
/-! _law_asked: by hand -/
/-! law: by hand -/
end Law

set_option Elab.async false
set_option linter.all false
set_option maxRecDepth 100000
namespace Law
open PySem PySem.Spec PyProof.Rows L2 Pu
open Pu.Rp (rp)
theorem pe_bmK {X : Cx} {K : Fg} (hK : X.K = K) {o e : Expr} {es : List Expr} {to : TE} {t : TA} {name : Str} {apos cpos : Pos} {T id : String} {r : V → List V → Hp → VK → Prop} (pa : PlainAttrs T) (slot : PySem.Slot T name id) (hty : typeOf (.builtin id) = pure (.type "method_descriptor")) (hm : MtR X id r) (ho : PE X o to) (ha : PA X (e :: es) t)
    (hbase : attributeBase o name X.env (eval o X.env) = eval o X.env := by rfl)
    (hfew : ((backTo cpos (starEach (e :: es) X.env)).all (fun x => !x.1) && (backToKw cpos (keywordEach [] X.env)).all (fun x => x.1.isSome)
      && decide ((e :: es).length + ([] : List Keyword).length + (if ([] : List Keyword).isEmpty then 0 else 1) < 30)) = true := by rfl)
    (hline : (apos.endLine == cpos.line) = true := by rfl) (hs : starEach (e :: es) X.env = (false, eval e X.env) :: starEach es X.env := by rfl) (hplain : (backTo cpos (starEach es X.env)).any (·.1) = false := by rfl) :
    PE X (.Call (.Attribute o name apos) (e :: es) [] cpos) (tBM K T r to t) := hK ▸ pe_bm pa slot hty hm ho ha hbase hfew hline hs hplain
theorem x_isNU {K : Fg} {σ : L2.St} {H : Hp} {ta : TE} {ma : Option Unit} {b : Bool} (ha : EvB K ta σ H ma) (hb : (ma.map fun _ => true) = some b) : EvB K (tOp (fun x y H Q => y = .non ∧ Q (.bl (decide (x = .non))) H) ta (tC .non)) σ H (some b) := fun x hx H1 e Q q => by
  cases hx
  obtain ⟨u, hu, rfl⟩ := Option.map_eq_some_iff.mp hb
  refine ha u hu H1 e _ fun v H2 g r => ?_
  cases (show v = V.non from r)
  exact ⟨rfl, q _ H2 g rfl⟩
theorem x_isNX {K : Fg} {σ : L2.St} {H : Hp} {ta : TE} {ma : Option (Dy ⊕ Xn)} {e : Xn} (ha : EvB K ta σ H ma) (hb : ma = some (Sum.inr e)) : EvB K (tOp (fun x y H Q => y = .non ∧ Q (.bl (decide (x = .non))) H) ta (tC .non)) σ H (some false) := fun x hx H1 e1 Q q => by
  cases hx
  refine ha _ hb H1 e1 _ fun v H2 g r => ?_
  obtain ⟨a, C, rfl, _⟩ := r
  exact ⟨rfl, q _ H2 g rfl⟩
def badM (x : FolkS) (c : String) : Option (Dy × FolkS) := okc ["NoName", "Ring"] c ((o1 fTuple (o1 m_law_kinds (some (Sum.inr ⟨c⟩)))).map fun ks => ((ToY.to ks : Dy), x))
def triedM (x : FolkS) (r : Option (FolkS ⊕ String)) : Option (Dy × FolkS) := r.bind fun o => onR o (fun x' => some ((ToY.to [Dy.non] : Dy), x')) (badM x)
def triedN (x : FolkS) (r : Option (List Str ⊕ String)) : Option (Dy × FolkS) := r.bind fun o => onR o (fun xs => some ((ToY.to [Dy.lst (xs.map Dy.str)] : Dy), x)) (badM x)
def m_law_tried (x : FolkS) (deed : Str) (t o : Dy) : Option (Dy × FolkS) :=
  (o2 fEqP (some deed) (some (Str.ofString "put"))).bind fun b => if b = true then triedM x (m_Folk_put x t o) else
  (o2 fEqP (some deed) (some (Str.ofString "take"))).bind fun b => if b = true then triedM x (m_Folk_take x t o) else
  (o2 fEqP (some deed) (some (Str.ofString "in"))).bind fun b => if b = true then triedN x (m_Folk_in_it x t) else
  (o2 fEqP (some deed) (some (Str.ofString "around"))).bind fun b => if b = true then triedN x (m_Folk_groups_of x t) else triedN x (m_Folk_straight x t)
def p_law_tried (a : FolkS × Str × Dy × Dy) : List Slot := [ow oFolk a.1, fz a.2.1, fz a.2.2.1, fz a.2.2.2]
def q_law_tried (_ : FolkS × Str × Dy × Dy) (b : Dy × FolkS) : List Slot := fz b.1 :: [ow oFolk b.2, .un, .un, .un]
abbrev S_law_tried (K : Fg) : Sp := PSe K p_law_tried (fun a => (m_law_tried a.1 a.2.1 a.2.2.1 a.2.2.2).map (Sum.inl (β := Empty))) q_law_tried Empty.elim (fun _ e => e.elim)
theorem okE_put {P : Program} {w : World} {K : Fg} {mg : Str → Option Value} {base : Heap} (T : Txt K mg) : FnOk P w K mg base (L2.CX P w) 5 T.a_Folk_put T.d_Folk_put ["self", "group", "member"] (PSe K pF (fun a => m_Folk_put a.1 a.2.1 a.2.2) qF id xF) := (ok_Folk_put T).imp (fun vs H Q E h => psmY_e h)
theorem okE_take {P : Program} {w : World} {K : Fg} {mg : Str → Option Value} {base : Heap} (T : Txt K mg) : FnOk P w K mg base (L2.CX P w) 2 T.a_Folk_take T.d_Folk_take ["self", "group", "member"] (PSe K pF (fun a => m_Folk_take a.1 a.2.1 a.2.2) qF id xF) := (ok_Folk_take T).imp (fun vs H Q E h => psmY_e h)
set_option maxHeartbeats 4000000 in
theorem ok_law_tried {P : Program} {w : World} {K : Fg} {mg : Str → Option Value} {base : Heap} (T : Txt K mg) : FnOk P w K mg base CX0 6 T.a_law_tried T.d_law_tried ["_law_folk", "_law_deed", "_law_thing_here", "_law_other"] (S_law_tried K) := by
  refine T.F_law_tried.ok sc_law_tried (fun vs H Q E h => ?_) (fun cdv A0 outer s H vs Q E0 hr h => ?_)
  · obtain ⟨G, L, a, r, E, _⟩ := h
    have := E.len
    rw [List.length_map] at this
    exact this
  · obtain ⟨G, L, a, r, E, hf, q, _⟩ := h
    obtain ⟨x, deed, t, o⟩ := a
    obtain ⟨r_fn, hm, rfl⟩ := Option.map_eq_some_iff.mp hf
    have hl := E.len
    rw [List.length_map] at hl
    obtain ⟨v0, v1, v2, v3, rfl⟩ : exists v0 v1 v2 v3, vs = [v0, v1, v2, v3] := by
      match vs, hl with
      | [a, b, c, d], _ => exact ⟨a, b, c, d, rfl⟩
    refine ⟨_, (pss_cons (ps_set (i := 4) sc_law_tried.nd rfl (by first | exact Or.inl rfl | exact Or.inr rfl) pe_non)
      (pss_cons (ps_set (i := 5) sc_law_tried.nd rfl (by first | exact Or.inl rfl | exact Or.inr rfl) (pe_lst pa_nil))
      (pss_cons (ps_try_asV (i := 6) rfl rfl rfl sc_law_tried.nd rfl rfl ⟨rfl, by decide, .inl T.g_GateError⟩ (fun W pn xe tk po =>
        (pss_cons (ps_if (pt_cmpR (opEq_K (K := K) rfl hr.units) (pv 1) pe_str (nomark _))
          (pss_cons (ps_expr (pe_bmK (K := K) rfl PySem.F.plainAttrs_list PySem.F.slot_list_append PySem.F.type_list_append mt_append (pv 5) (pa_cons (pe_methSD (pv 0) T.cl_Folk T.M_Folk_put (okE_put T) (hr.mono (by decide)) T.b_Folk_put .nil (fun σ => passAt tk σ) (pa_cons (pv 2) (pa_cons (pv 3) pa_nil))) pa_nil))) pss_nil)
          (pss_cons (ps_if (pt_cmpR (opEq_K (K := K) rfl hr.units) (pv 1) pe_str (nomark _))
            (pss_cons (ps_expr (pe_bmK (K := K) rfl PySem.F.plainAttrs_list PySem.F.slot_list_append PySem.F.type_list_append mt_append (pv 5) (pa_cons (pe_methSD (pv 0) T.cl_Folk T.M_Folk_take (okE_take T) (hr.mono (by decide)) T.b_Folk_take .nil (fun σ => passAt tk σ) (pa_cons (pv 2) (pa_cons (pv 3) pa_nil))) pa_nil))) pss_nil)
            (pss_cons (ps_if (pt_cmpR (opEq_K (K := K) rfl hr.units) (pv 1) pe_str (nomark _))
              (pss_cons (ps_expr (pe_bmK (K := K) rfl PySem.F.plainAttrs_list PySem.F.slot_list_append PySem.F.type_list_append mt_append (pv 5) (pa_cons (pe_methSD (pv 0) T.cl_Folk T.M_Folk_in_it (ok_Folk_in_it T) (hr.mono (by decide)) T.b_Folk_in_it .nil (fun σ => passAt tk σ) (pa_cons (pv 2) pa_nil)) pa_nil))) pss_nil)
              (pss_cons (ps_if (pt_cmpR (opEq_K (K := K) rfl hr.units) (pv 1) pe_str (nomark _))
                (pss_cons (ps_expr (pe_bmK (K := K) rfl PySem.F.plainAttrs_list PySem.F.slot_list_append PySem.F.type_list_append mt_append (pv 5) (pa_cons (pe_methSD (pv 0) T.cl_Folk T.M_Folk_groups_of (ok_Folk_groups_of T) (hr.mono (by decide)) T.b_Folk_groups_of .nil (fun σ => passAt tk σ) (pa_cons (pv 2) pa_nil)) pa_nil))) pss_nil)
                (pss_cons (ps_expr (pe_bmK (K := K) rfl PySem.F.plainAttrs_list PySem.F.slot_list_append PySem.F.type_list_append mt_append (pv 5) (pa_cons (pe_methSD (pv 0) T.cl_Folk T.M_Folk_straight (ok_Folk_straight T) (hr.mono (by decide)) T.b_Folk_straight .nil (fun σ => passAt tk σ) (pa_cons (pv 2) pa_nil)) pa_nil))) pss_nil)) pss_nil)) pss_nil)) pss_nil)) pss_nil))
        (fun a oe cls d pn hz hf => pss_cons (ps_set (i := 4) sc_law_tried.nd rfl (by first | exact Or.inl rfl | exact Or.inr rfl) (pv 6)) pss_nil))
      (pss_cons (ps_ret (pe_ifExp (pt_cmpR op_isN (pv 4) pe_non (nomark _)) (pv 5) (pe_callTy (tof_K (K := K) rfl) (by rfl) T.n_tuple bb_tuple (pa_cons (pe_call (ok_law_kinds T) (hr.mono (by decide)) (by rfl) T.g_law_kinds T.F_law_kinds.kp T.b_law_kinds .nil pass0 (pa_cons (pv 4) pa_nil)) pa_nil)))) pss_nil)))), ?_⟩
    unfold m_law_tried at hm
    replace E : Env K G G H L _ ([ow oFolk x, fz deed, fz t, fz o] ++ List.replicate 3 .un) := E.start (vs := [v0, v1, v2, v3]) 3
    replace E := E.pin (i := 0) (v := v0) rfl rfl
    have g0 : Gx G G := Gx.rfl
    clear hf
    refine se_asg (x := ()) (eb_non (K := K)).own rfl E fun σ G2 H2 _ E => ?_
    refine se_new (A := Dy) E (show 5 < 7 by decide) fun σ H2 E => ?_
    have good : forall {u : TS} {te : TE} (x' : FolkS) (ys : List Dy), r_fn = ((ToY.to ys : Dy), x') -> forall {σ : L2.St} {G2 H2 : Hp} {X : Ends}, X.rt = Q -> Env K G G2 H2 L σ [ow (oPin v0 oFolk) x', fz deed, fz t, fz o, fz (), ow (oL Dy) ys, .un] ->
        tSeq (tRet (tIf (tTest (tOp (fun x y H Q => y = .non ∧ Q (.bl (decide (x = .non))) H) (tVar 4) (tC .non))) (tVar 5) te)) u X σ H2 := by
      intro u te x' ys er σ G2 H2 X hX E
      subst er
      obtain ⟨G3, _, E⟩ := E.frzL (i := 5) rfl
      exact E.run (eo_if (mc := some true) (mb := none) (et_test (x_isNU (E.eb.get (i := 4) rfl) rfl)) (eo_conv (f := (ToY.to : List Dy -> Dy)) (fun r => c_toY r) (E.ef.get (i := 5) rfl)) (fun _ h => nomatch h)) rfl fun v G2 H2 _ _ E2 rv => by
        rw [hX]
        exact q _ rfl v G2 H2 ((E2.rebase g0).fin ⟨rfl, trivial⟩ rv)
    have bad : forall {u : TS} (x' : FolkS) (c : String), badM x' c = some r_fn -> forall {σ : L2.St} {G2 H2 : Hp} {X : Ends} {C : Addr}, X.rt = Q -> isC K c C -> Env K G G2 H2 L σ [ow (oPin v0 oFolk) x', fz deed, fz t, fz o, fz (), ow (oL Dy) ([] : List Dy), .un] ->
        wAsV K (.ref T.c_GateError) 6 (fun a cls d => tSeq (tAsg (tVar 6) (gName 4)) tNext) { X with nx := fun σ H => tSeq (tRet (tIf (tTest (tOp (fun x y H Q => y = .non ∧ Q (.bl (decide (x = .non))) H) (tVar 4) (tC .non))) (tVar 5) (tCB (fun xs H Q => ∃ p ys, xs = [.ref p] ∧ ((SqL K H p ys ∧ ∀ l, H l = none → Q (.ref l) (upd H l (.tup ys))) ∨ (SqT K H p ys ∧ Q (.ref p) H))) (tCons (tCall (PSn K (A1 K m_law_kinds)) [] L2.E0 (tCons (tVar 4) tNil)) tNil)))) u X σ H } (.ref C) none σ H2 := by
      intro u x' c hb σ G2 H2 X C hX iC E
      have hb := okcs hb
      refine ⟨T.xm_GateError c hb.1 C iC, fun a ha => ?_⟩
      have hl7 : σ.length = 7 := E.len
      refine st_suiteV (by rw [List.getElem?_set_self (by omega)]) ?_
      replace E := E.setN (i := 6) (o := some (.ref a)) rfl
      replace E := E.both (o := ExV (.ref C) none a) ha
      replace E := E.setF (i := 4) (x := (Sum.inr ⟨c⟩ : Dy ⊕ Xn)) (v := .ref a) ⟨a, C, rfl, iC, upd_same⟩
      replace E := E.setN (i := 6) (o := none) rfl
      obtain ⟨ks, hk, hy⟩ := Option.map_eq_some_iff.mp hb.2
      subst hy
      exact E.run (eo_if (mc := some false) (ma := none) (et_test (x_isNX (E.eb.get (A := Dy ⊕ Xn) (i := 4) rfl) rfl)) (fun _ h => nomatch h) (eo_conv (f := (ToY.to : Tl Str -> Dy)) (fun r => c_toY r) (x_tuple ((en_call (em1 (E.eb.get (A := Dy ⊕ Xn) (i := 4) rfl))).b)).own)) (by rw [hk]; rfl) fun v G2 H2 _ _ E2 rv => by
        rw [hX]
        exact q _ rfl v G2 H2 ((E2.rebase g0).fin ⟨rfl, trivial⟩ rv)
    have tM : forall {r : Option (FolkS ⊕ String)}, triedM x r = some r_fn -> exists o, r = some o ∧ (forall x', o = .inl x' -> r_fn = ((ToY.to [Dy.non] : Dy), x')) ∧ (forall c, o = .inr c -> badM x c = some r_fn) := by
      intro r h
      obtain ⟨o, h1, h2⟩ := Option.bind_eq_some_iff.mp h
      refine ⟨o, h1, fun x' e => ?_, fun c e => ?_⟩
      · subst e; exact (Option.some.inj h2).symm
      · subst e; exact h2
    have tN : forall {r : Option (List Str ⊕ String)}, triedN x r = some r_fn -> exists o, r = some o ∧ (forall xs, o = .inl xs -> r_fn = ((ToY.to [Dy.lst (xs.map Dy.str)] : Dy), x)) ∧ (forall c, o = .inr c -> badM x c = some r_fn) := by
      intro r h
      obtain ⟨o, h1, h2⟩ := Option.bind_eq_some_iff.mp h
      refine ⟨o, h1, fun x' e => ?_, fun c e => ?_⟩
      · subst e; exact (Option.some.inj h2).symm
      · subst e; exact h2
    obtain ⟨b, hb, hm⟩ := bnd hm
    refine se_if (et_test (x_eqP (by decide) (E.eb.get (i := 1) rfl) (eb_str (K := K)))) hb E (fun eb H2 E => ?_) (fun eb H2 E => ?_)
    · subst eb
      obtain ⟨o', h1, h2, h3⟩ := tM (itt hm)
      exact se_appM (i0 := 0) (i2 := 2) (i3 := 3) (i5 := 5) (f := fun a => m_Folk_put a.1 a.2.1 a.2.2) (folk_nm (m := "put") (by decide +kernel)) T.i_Folk E rfl rfl rfl rfl (by decide) (by decide) (by decide) (by decide) (by decide) h1 (fun x' e G2 H2 E2 => good x' _ (h2 x' e) rfl E2) (fun c e C G2 H2 iC E2 => bad x c (h3 c e) rfl iC E2)
    · subst eb
      obtain ⟨b, hb, hm⟩ := bnd (itf hm)
      refine se_if (et_test (x_eqP (by decide) (E.eb.get (i := 1) rfl) (eb_str (K := K)))) hb E (fun eb H2 E => ?_) (fun eb H2 E => ?_)
      · subst eb
        obtain ⟨o', h1, h2, h3⟩ := tM (itt hm)
        exact se_appM (i0 := 0) (i2 := 2) (i3 := 3) (i5 := 5) (f := fun a => m_Folk_take a.1 a.2.1 a.2.2) (folk_nm (m := "take") (by decide +kernel)) T.i_Folk E rfl rfl rfl rfl (by decide) (by decide) (by decide) (by decide) (by decide) h1 (fun x' e G2 H2 E2 => good x' _ (h2 x' e) rfl E2) (fun c e C G2 H2 iC E2 => bad x c (h3 c e) rfl iC E2)
      · subst eb
        obtain ⟨b, hb, hm⟩ := bnd (itf hm)
        refine se_if (et_test (x_eqP (by decide) (E.eb.get (i := 1) rfl) (eb_str (K := K)))) hb E (fun eb H2 E => ?_) (fun eb H2 E => ?_)
        · subst eb
          obtain ⟨o', h1, h2, h3⟩ := tN (itt hm)
          exact se_appN (i0 := 0) (i2 := 2) (i5 := 5) (folk_nm (m := "in_it") (by decide +kernel)) T.i_Folk E rfl rfl rfl (by decide) (by decide) h1 (fun xs e G2 H2 E2 => good x _ (h2 xs e) rfl E2) (fun c e C G2 H2 iC E2 => bad x c (h3 c e) rfl iC E2)
        · subst eb
          obtain ⟨b, hb, hm⟩ := bnd (itf hm)
          refine se_if (et_test (x_eqP (by decide) (E.eb.get (i := 1) rfl) (eb_str (K := K)))) hb E (fun eb H2 E => ?_) (fun eb H2 E => ?_)
          · subst eb
            obtain ⟨o', h1, h2, h3⟩ := tN (itt hm)
            exact se_appN (i0 := 0) (i2 := 2) (i5 := 5) (folk_nm (m := "groups_of") (by decide +kernel)) T.i_Folk E rfl rfl rfl (by decide) (by decide) h1 (fun xs e G2 H2 E2 => good x _ (h2 xs e) rfl E2) (fun c e C G2 H2 iC E2 => bad x c (h3 c e) rfl iC E2)
          · subst eb
            obtain ⟨o', h1, h2, h3⟩ := tN (itf hm)
            exact se_appN (i0 := 0) (i2 := 2) (i5 := 5) (folk_nm (m := "straight") (by decide +kernel)) T.i_Folk E rfl rfl rfl (by decide) (by decide) h1 (fun xs e G2 H2 E2 => good x _ (h2 xs e) rfl E2) (fun c e C G2 H2 iC E2 => bad x c (h3 c e) rfl iC E2)
end Law

set_option Elab.async false
set_option linter.all false
set_option maxRecDepth 100000
namespace Law
open PySem PySem.Spec PyProof.Rows L2 Pu
open Pu.Rp (rp)
/-! _law_done -/
def m_law_done (x_law_folk : FolkS) (x_law_rows : (Ds (List Str))) (x_law_people : (List Str)) (x_law_groups : (List Str)) (x_law_mixed_here : Int) (x_law_more : Int) : Option (Bool × FolkS × (Ds (List Str))) := ((o2 ix (o1 szOk (o2 fCons (some (Str.ofString "put")) (o2 fCons (some (Str.ofString "put")) (o2 fCons (some (Str.ofString "put")) (o2 fCons (some (Str.ofString "take")) (some ([] : List Str))))))) (o2 fMod (some x_law_mixed_here) (some (4 : Int))))).bind fun x_law_deed => ((o2 fDiv (some x_law_mixed_here) (some (4 : Int)))).bind fun y188 => ((some x_law_people)).bind fun y189 => ((some x_law_groups)).bind fun y190 => (m_law_thing y188 y189 y190).bind fun r191 => ((o2 fGt (o2 fMod (some x_law_more) (some (4 : Int))) (some (0 : Int)))).bind fun b192 => if b192 = true then (((((o2 ix (some x_law_groups) (o2 fMod (o2 fDiv (some x_law_more) (some (4 : Int))) (o1 fLen (some x_law_groups))))).map (ToY.to : Str -> Dy))).bind fun x_law_group => ((o2 fDiv (some x_law_more) (some (36 : Int)))).bind fun y193 => ((some x_law_people)).bind fun y194 => ((some x_law_groups)).bind fun y195 => (m_law_thing y193 y194 y195).bind fun r196 => ((oAnd (o2 fEqP (some x_law_deed) (some (Str.ofString "take"))) (oAnd (o1 (fIsY "str") (some x_law_group)) (oAnd (o2 fNeP (o3 fGet2 (some x_law_rows) (o1 yStr (some x_law_group)) (o1 szOk (some ([] : List Str)))) (o1 szOk (some ([] : List Str)))) (o2 fGt (o2 fMod (some x_law_more) (some (3 : Int))) (some (0 : Int))))))).bind fun b197 => if b197 = true then (((((o2 ix (o2 fGetD (some x_law_rows) (o1 yStr (some x_law_group))) (o2 fMod (o2 fDiv (some x_law_more) (some (36 : Int))) (o1 fLen (o2 fGetD (some x_law_rows) (o1 yStr (some x_law_group))))))).map (ToY.to : Str -> Dy))).bind fun x_law_member => ((oIf (o2 fEqP (some x_law_deed) (some (Str.ofString "put"))) (o4 m_law_put_due (some x_law_rows) (some x_law_people) (some x_law_group) (some x_law_member)) (o3 m_law_take_due (some x_law_rows) (some x_law_group) (some x_law_member)))).bind fun x_law_due => ((some x_law_deed)).bind fun y198 => ((some x_law_group)).bind fun y199 => ((some x_law_member)).bind fun y200 => (m_law_tried x_law_folk y198 y199 y200).bind fun r201 => ((o2 fNeP (some x_law_due) (some (Str.ofString "")))).bind fun b202 => if b202 = true then (((o2 fEqY (some r201.1) (((o1 fTup (o2 fCons (some x_law_due) (some ([] : List Str))))).map (ToY.to : (Tl Str) -> Dy)))).bind fun y203 => some ((y203, r201.2, x_law_rows))) else (((oComp (fun (y204 : Str) => (oOr (o2 fEqP (some x_law_deed) (some (Str.ofString "put"))) (o2 fNeP (some y204) (o1 yStr (some x_law_member))))) (fun (y204 : Str) => (some y204)) (o3 fGet2 (some x_law_rows) (o1 yStr (some x_law_group)) (o1 szOk (some ([] : List Str)))))).bind fun x_law_own => ((o2 fCat (some x_law_own) (o2 fRep (o1 szOk (o2 fCons (o1 yStr (some x_law_member)) (some ([] : List Str)))) (o1 fIntB (oAnd (o2 fEqP (some x_law_deed) (some (Str.ofString "put"))) (o2 fNinL (o1 yStr (some x_law_member)) (some x_law_own))))))).bind fun y205 => ((o1 yStr (some x_law_group))).bind fun y206 => (fSput x_law_rows.l y206 y205).bind fun y207 => ((o2 fEqY (some r201.1) (((o1 szOk (o2 fCons (some ()) (some ([] : List Unit))))).map (ToY.to : (List Unit) -> Dy)))).bind fun y208 => some ((y208, r201.2, (⟨y207⟩ : (Ds (List Str))))))) else (((oIf (o2 fEqP (some x_law_deed) (some (Str.ofString "put"))) (o4 m_law_put_due (some x_law_rows) (some x_law_people) (some x_law_group) (some r196)) (o3 m_law_take_due (some x_law_rows) (some x_law_group) (some r196)))).bind fun x_law_due => ((some x_law_deed)).bind fun y209 => ((some x_law_group)).bind fun y210 => ((some r196)).bind fun y211 => (m_law_tried x_law_folk y209 y210 y211).bind fun r212 => ((o2 fNeP (some x_law_due) (some (Str.ofString "")))).bind fun b213 => if b213 = true then (((o2 fEqY (some r212.1) (((o1 fTup (o2 fCons (some x_law_due) (some ([] : List Str))))).map (ToY.to : (Tl Str) -> Dy)))).bind fun y214 => some ((y214, r212.2, x_law_rows))) else (((oComp (fun (y215 : Str) => (oOr (o2 fEqP (some x_law_deed) (some (Str.ofString "put"))) (o2 fNeP (some y215) (o1 yStr (some r196))))) (fun (y215 : Str) => (some y215)) (o3 fGet2 (some x_law_rows) (o1 yStr (some x_law_group)) (o1 szOk (some ([] : List Str)))))).bind fun x_law_own => ((o2 fCat (some x_law_own) (o2 fRep (o1 szOk (o2 fCons (o1 yStr (some r196)) (some ([] : List Str)))) (o1 fIntB (oAnd (o2 fEqP (some x_law_deed) (some (Str.ofString "put"))) (o2 fNinL (o1 yStr (some r196)) (some x_law_own))))))).bind fun y216 => ((o1 yStr (some x_law_group))).bind fun y217 => (fSput x_law_rows.l y217 y216).bind fun y218 => ((o2 fEqY (some r212.1) (((o1 szOk (o2 fCons (some ()) (some ([] : List Unit))))).map (ToY.to : (List Unit) -> Dy)))).bind fun y219 => some ((y219, r212.2, (⟨y218⟩ : (Ds (List Str)))))))) else (((o2 fDiv (some x_law_more) (some (36 : Int)))).bind fun y220 => ((some x_law_people)).bind fun y221 => ((some x_law_groups)).bind fun y222 => (m_law_thing y220 y221 y222).bind fun r223 => ((oAnd (o2 fEqP (some x_law_deed) (some (Str.ofString "take"))) (oAnd (o1 (fIsY "str") (some r191)) (oAnd (o2 fNeP (o3 fGet2 (some x_law_rows) (o1 yStr (some r191)) (o1 szOk (some ([] : List Str)))) (o1 szOk (some ([] : List Str)))) (o2 fGt (o2 fMod (some x_law_more) (some (3 : Int))) (some (0 : Int))))))).bind fun b224 => if b224 = true then (((((o2 ix (o2 fGetD (some x_law_rows) (o1 yStr (some r191))) (o2 fMod (o2 fDiv (some x_law_more) (some (36 : Int))) (o1 fLen (o2 fGetD (some x_law_rows) (o1 yStr (some r191))))))).map (ToY.to : Str -> Dy))).bind fun x_law_member => ((oIf (o2 fEqP (some x_law_deed) (some (Str.ofString "put"))) (o4 m_law_put_due (some x_law_rows) (some x_law_people) (some r191) (some x_law_member)) (o3 m_law_take_due (some x_law_rows) (some r191) (some x_law_member)))).bind fun x_law_due => ((some x_law_deed)).bind fun y225 => ((some r191)).bind fun y226 => ((some x_law_member)).bind fun y227 => (m_law_tried x_law_folk y225 y226 y227).bind fun r228 => ((o2 fNeP (some x_law_due) (some (Str.ofString "")))).bind fun b229 => if b229 = true then (((o2 fEqY (some r228.1) (((o1 fTup (o2 fCons (some x_law_due) (some ([] : List Str))))).map (ToY.to : (Tl Str) -> Dy)))).bind fun y230 => some ((y230, r228.2, x_law_rows))) else (((oComp (fun (y231 : Str) => (oOr (o2 fEqP (some x_law_deed) (some (Str.ofString "put"))) (o2 fNeP (some y231) (o1 yStr (some x_law_member))))) (fun (y231 : Str) => (some y231)) (o3 fGet2 (some x_law_rows) (o1 yStr (some r191)) (o1 szOk (some ([] : List Str)))))).bind fun x_law_own => ((o2 fCat (some x_law_own) (o2 fRep (o1 szOk (o2 fCons (o1 yStr (some x_law_member)) (some ([] : List Str)))) (o1 fIntB (oAnd (o2 fEqP (some x_law_deed) (some (Str.ofString "put"))) (o2 fNinL (o1 yStr (some x_law_member)) (some x_law_own))))))).bind fun y232 => ((o1 yStr (some r191))).bind fun y233 => (fSput x_law_rows.l y233 y232).bind fun y234 => ((o2 fEqY (some r228.1) (((o1 szOk (o2 fCons (some ()) (some ([] : List Unit))))).map (ToY.to : (List Unit) -> Dy)))).bind fun y235 => some ((y235, r228.2, (⟨y234⟩ : (Ds (List Str))))))) else (((oIf (o2 fEqP (some x_law_deed) (some (Str.ofString "put"))) (o4 m_law_put_due (some x_law_rows) (some x_law_people) (some r191) (some r223)) (o3 m_law_take_due (some x_law_rows) (some r191) (some r223)))).bind fun x_law_due => ((some x_law_deed)).bind fun y236 => ((some r191)).bind fun y237 => ((some r223)).bind fun y238 => (m_law_tried x_law_folk y236 y237 y238).bind fun r239 => ((o2 fNeP (some x_law_due) (some (Str.ofString "")))).bind fun b240 => if b240 = true then (((o2 fEqY (some r239.1) (((o1 fTup (o2 fCons (some x_law_due) (some ([] : List Str))))).map (ToY.to : (Tl Str) -> Dy)))).bind fun y241 => some ((y241, r239.2, x_law_rows))) else (((oComp (fun (y242 : Str) => (oOr (o2 fEqP (some x_law_deed) (some (Str.ofString "put"))) (o2 fNeP (some y242) (o1 yStr (some r223))))) (fun (y242 : Str) => (some y242)) (o3 fGet2 (some x_law_rows) (o1 yStr (some r191)) (o1 szOk (some ([] : List Str)))))).bind fun x_law_own => ((o2 fCat (some x_law_own) (o2 fRep (o1 szOk (o2 fCons (o1 yStr (some r223)) (some ([] : List Str)))) (o1 fIntB (oAnd (o2 fEqP (some x_law_deed) (some (Str.ofString "put"))) (o2 fNinL (o1 yStr (some r223)) (some x_law_own))))))).bind fun y243 => ((o1 yStr (some r191))).bind fun y244 => (fSput x_law_rows.l y244 y243).bind fun y245 => ((o2 fEqY (some r239.1) (((o1 szOk (o2 fCons (some ()) (some ([] : List Unit))))).map (ToY.to : (List Unit) -> Dy)))).bind fun y246 => some ((y246, r239.2, (⟨y245⟩ : (Ds (List Str))))))))
def p_law_done (a : FolkS × (Ds (List Str)) × (List Str) × (List Str) × Int × Int) : List Slot := [ow oFolk a.1, ow (oS (List Str)) a.2.1, fz a.2.2.1, fz a.2.2.2.1, fz a.2.2.2.2.1, fz a.2.2.2.2.2]
def q_law_done (_ : FolkS × (Ds (List Str)) × (List Str) × (List Str) × Int × Int) (b : (Bool × FolkS × (Ds (List Str)))) : List Slot := fz b.1 :: [ow oFolk b.2.1, ow (oS (List Str)) b.2.2, .un, .un, .un, .un]
abbrev S_law_done (K : Fg) : Sp := PSe K p_law_done (fun a => (m_law_done a.1 a.2.1 a.2.2.1 a.2.2.2.1 a.2.2.2.2.1 a.2.2.2.2.2).map (Sum.inl (β := Empty))) q_law_done Empty.elim (fun _ e => e.elim)
set_option maxHeartbeats 4000000 in
theorem ok_law_done {P : Program} {w : World} {K : Fg} {mg : Str → Option Value} {base : Heap} (T : Txt K mg) : FnOk P w K mg base CX0 7 T.a_law_done T.d_law_done ["_law_folk", "_law_rows", "_law_people", "_law_groups", "_law_mixed_here", "_law_more"] (S_law_done K) := by
  refine T.F_law_done.ok sc_law_done (fun vs H Q E h => ?_) (fun cdv A0 outer s H vs Q E0 hr h => ?_)
  · obtain ⟨G, L, a, r, E, _⟩ := h
    have := E.len
    rw [List.length_map] at this
    exact this
  · obtain ⟨G, L, a, r, E, hf, q, _⟩ := h
    obtain ⟨x_law_folk, x_law_rows, x_law_people, x_law_groups, x_law_mixed_here, x_law_more⟩ := a
    obtain ⟨r_fn, hm, rfl⟩ := Option.map_eq_some_iff.mp hf
    have hl := E.len
    rw [List.length_map] at hl
    obtain ⟨v_law_folk, v_law_rows, v_law_people, v_law_groups, v_law_mixed_here, v_law_more, rfl⟩ : exists v_law_folk v_law_rows v_law_people v_law_groups v_law_mixed_here v_law_more, vs = [v_law_folk, v_law_rows, v_law_people, v_law_groups, v_law_mixed_here, v_law_more] := by
      match vs, hl with
      | [v_law_folk, v_law_rows, v_law_people, v_law_groups, v_law_mixed_here, v_law_more], _ => exact ⟨v_law_folk, v_law_rows, v_law_people, v_law_groups, v_law_mixed_here, v_law_more, rfl⟩
    refine ⟨_, (pss_cons (ps_set (i := 6) sc_law_done.nd rfl (by first | exact Or.inl rfl | exact Or.inr rfl) (pe_ix (ixL_K (K := K) rfl) (pe_lst (pa_cons pe_str (pa_cons pe_str (pa_cons pe_str (pa_cons pe_str pa_nil))))) (pe_op op_mod (pv 4) pe_int) (fun _ _ => rfl))) (pss_cons (ps_set (i := 7) sc_law_done.nd rfl (by first | exact Or.inl rfl | exact Or.inr rfl) (pe_call (ok_law_thing T) (hr.mono (by decide)) (by rfl) T.g_law_thing T.F_law_thing.kp T.b_law_thing .nil pass0 (pa_cons (pe_op op_fdiv (pv 4) pe_int) (pa_cons (pv 2) (pa_cons (pv 3) pa_nil))))) (pss_cons (ps_if (pt_cmpR op_gt (pe_op op_mod (pv 5) pe_int) pe_int (nomark _)) (pss_cons (ps_set (i := 7) sc_law_done.nd rfl (by first | exact Or.inl rfl | exact Or.inr rfl) (pe_ix (ixL_K (K := K) rfl) (pv 3) (pe_op op_mod (pe_op op_fdiv (pv 5) pe_int) (pe_callB (len_K (K := K) rfl) (by rfl) T.n_len bb_len (pa_cons (pv 3) pa_nil))) (fun _ _ => rfl))) pss_nil) pss_nil) (pss_cons (ps_set (i := 8) sc_law_done.nd rfl (by first | exact Or.inl rfl | exact Or.inr rfl) (pe_call (ok_law_thing T) (hr.mono (by decide)) (by rfl) T.g_law_thing T.F_law_thing.kp T.b_law_thing .nil pass0 (pa_cons (pe_op op_fdiv (pv 5) pe_int) (pa_cons (pv 2) (pa_cons (pv 3) pa_nil))))) (pss_cons (ps_if (PW.pt (pw_and (pt_cmpR (opEq_K (K := K) rfl hr.units) (pv 6) pe_str (nomark _)) (pw_and (pt_val (pe_callB (isi_K (K := K) rfl) (by rfl) T.n_isinstance bb_isinstance (pa_cons (pv 7) (pa_cons (pe_bltn (v := .ty "str") (by rfl) T.n_str bb_str rfl) pa_nil)))) (pw_and (pt_cmpR (opNe_K (K := K) rfl hr.units) (pe_dget2 (hu_of hr) (pv 1) (pv 7) (pe_lst pa_nil) ⟨by rfl, by rfl, by rfl, by rfl⟩) (pe_lst pa_nil) (nomark _)) (pw_and1 (pt_cmpR op_gt (pe_op op_mod (pv 5) pe_int) pe_int (nomark _))))))) (pss_cons (ps_set (i := 8) sc_law_done.nd rfl (by first | exact Or.inl rfl | exact Or.inr rfl) (pe_ix (ixL_K (K := K) rfl) (pe_dget (hu_of hr) (pv 1) (pv 7) (fun _ _ => rfl)) (pe_op op_mod (pe_op op_fdiv (pv 5) pe_int) (pe_callB (len_K (K := K) rfl) (by rfl) T.n_len bb_len (pa_cons (pe_dget (hu_of hr) (pv 1) (pv 7) (fun _ _ => rfl)) pa_nil))) (fun _ _ => rfl))) pss_nil) pss_nil) (pss_cons (ps_set (i := 9) sc_law_done.nd rfl (by first | exact Or.inl rfl | exact Or.inr rfl) (pe_ifExp (pt_cmpR (opEq_K (K := K) rfl hr.units) (pv 6) pe_str (nomark _)) (pe_call (ok_law_put_due T) (hr.mono (by decide)) (by rfl) T.g_law_put_due T.F_law_put_due.kp T.b_law_put_due .nil pass0 (pa_cons (pv 1) (pa_cons (pv 2) (pa_cons (pv 7) (pa_cons (pv 8) pa_nil))))) (pe_call (ok_law_take_due T) (hr.mono (by decide)) (by rfl) T.g_law_take_due T.F_law_take_due.kp T.b_law_take_due .nil pass0 (pa_cons (pv 1) (pa_cons (pv 7) (pa_cons (pv 8) pa_nil)))))) (pss_cons (ps_set (i := 10) sc_law_done.nd rfl (by first | exact Or.inl rfl | exact Or.inr rfl) (pe_call (ok_law_tried T) (hr.mono (by decide)) (by rfl) T.g_law_tried T.F_law_tried.kp T.b_law_tried .nil pass0 (pa_cons (pv 0) (pa_cons (pv 6) (pa_cons (pv 7) (pa_cons (pv 8) pa_nil)))))) (pss_cons (ps_if (pt_cmpR (opNe_K (K := K) rfl hr.units) (pv 9) pe_str (nomark _)) (pss_cons (ps_ret (pe_cmpR (opEq_K (K := K) rfl hr.units) (pv 10) (pe_tup (pa_cons (pv 9) pa_nil)) (nomark _))) pss_nil) pss_nil) (pss_cons (ps_setLc (i := 11) (own := [("_law_one", 12)]) (g := (gName 12)) rfl sc_law_done.nd rfl rfl (sw_true rfl rfl rfl (by decide +kernel)) (piL_K (K := K) rfl (pe_dget2 (hu_of hr) (pv 1) (pv 7) (pe_lst pa_nil) ⟨by rfl, by rfl, by rfl, by rfl⟩)) (blkOk_by (N := ["_law_folk", "_law_rows", "_law_people", "_law_groups", "_law_mixed_here", "_law_more", "_law_deed", "_law_group", "_law_member", "_law_due", "_law_found", "_law_own", "_law_one"]) (sc := defScope s_law_done) (by decide +kernel)) (fun _ _ _ _ _ => by exact (pg_name (i := 12) sc_law_done.nd rfl (by first | exact Or.inl rfl | exact Or.inr rfl))) (fun _ _ _ _ _ => by exact (pts_one (PW.pt (pw_or (pt_cmpR (opEq_K (K := K) rfl hr.units) (pv 6) pe_str (nomark _)) (pw_or1 (pt_cmpR (opNe_K (K := K) rfl hr.units) (pv 12) (pv 8) (nomark _))))))) (fun _ _ _ _ _ => by exact (pv 12))) (pss_cons (ps_dput (hu_of hr) (pv 1) (pv 7) (pe_op op_cat (pv 11) (pe_op op_rep (pe_lst (pa_cons (pv 8) pa_nil)) (pe_callTy call_int1 (by rfl) T.n_int bb_int (pa_cons (pe_and (pe_cmpR (opEq_K (K := K) rfl hr.units) (pv 6) pe_str (nomark _)) (pe_one (pe_cmpR (opNin_K (K := K) rfl) (pv 8) (pv 11) (by rfl)))) pa_nil)))) rfl) (pss_cons (ps_ret (pe_cmpR (opEq_K (K := K) rfl hr.units) (pv 10) (pe_lst (pa_cons pe_non pa_nil)) (nomark _))) pss_nil))))))))))), ?_⟩
    unfold m_law_done at hm
    replace E : Env K G G H L _ ([ow oFolk (x_law_folk : FolkS), ow (oS (List Str)) (x_law_rows : (Ds (List Str))), fz (x_law_people : (List Str)), fz (x_law_groups : (List Str)), fz (x_law_mixed_here : Int), fz (x_law_more : Int)] ++ List.replicate 7 .un) := E.start (vs := [v_law_folk, v_law_rows, v_law_people, v_law_groups, v_law_mixed_here, v_law_more]) 7
    replace E := E.pin (i := 0) (v := v_law_folk) rfl rfl
    replace E := E.pin (i := 1) (v := v_law_rows) rfl rfl
    have g0 : Gx G G := Gx.rfl
    clear hf
    obtain ⟨x_law_deed, hx, hm⟩ := bnd hm
    refine se_asg ((x_ixL ((x_lst (l_cons (eb_str (K := K)) (l_cons (eb_str (K := K)) (l_cons (eb_str (K := K)) (l_cons (eb_str (K := K)) (l_nil (K := K)))))))).b (x_mod (E.eb.get (i := 4) rfl) (eb_int (K := K))))).own hx E fun σ G H _ E => ?_
    obtain ⟨y188, hy188, hm⟩ := bnd hm
    obtain ⟨y189, hy189, hm⟩ := bnd hm
    obtain ⟨y190, hy190, hm⟩ := bnd hm
    obtain ⟨r191, hr191, hm⟩ := bnd hm
    refine se_callF (i := 7) (pre := p_law_thing) (post := q_law_thing) (F := fun a => (m_law_thing a.1 a.2.1 a.2.2).map (Sum.inl (β := Empty))) (a := (y188, y189, y190)) (n := 3) rfl (fun _ => rfl) E (ef_cons ((x_div (E.eb.get (i := 4) rfl) (eb_int (K := K)))).own hy188 (ef_cons (E.ef.get (i := 2) rfl) hy189 (ef_cons (E.ef.get (i := 3) rfl) hy190 ef_nil))) (congrArg (Option.map Sum.inl) hr191) fun σ G H E => ?_
    obtain ⟨b192, hb192, hm⟩ := bnd hm
    refine se_if (et_test (x_gt (x_mod (E.eb.get (i := 5) rfl) (eb_int (K := K))) (eb_int (K := K)))) hb192 E (fun eb H E => ?_) (fun eb H E => ?_)
    · subst eb
      replace hm := itt hm
      obtain ⟨x_law_group, hx, hm⟩ := bnd hm
      refine se_asg (eo_conv (f := (ToY.to : Str -> Dy)) (fun r => c_toY r) ((x_ixL (E.eb.get (i := 3) rfl) (x_mod (x_div (E.eb.get (i := 5) rfl) (eb_int (K := K))) (x_lenL (E.eb.get (i := 3) rfl))))).own) hx E fun σ G H _ E => ?_
      obtain ⟨y193, hy193, hm⟩ := bnd hm
      obtain ⟨y194, hy194, hm⟩ := bnd hm
      obtain ⟨y195, hy195, hm⟩ := bnd hm
      obtain ⟨r196, hr196, hm⟩ := bnd hm
      refine se_callF (i := 8) (pre := p_law_thing) (post := q_law_thing) (F := fun a => (m_law_thing a.1 a.2.1 a.2.2).map (Sum.inl (β := Empty))) (a := (y193, y194, y195)) (n := 3) rfl (fun _ => rfl) E (ef_cons ((x_div (E.eb.get (i := 5) rfl) (eb_int (K := K)))).own hy193 (ef_cons (E.ef.get (i := 2) rfl) hy194 (ef_cons (E.ef.get (i := 3) rfl) hy195 ef_nil))) (congrArg (Option.map Sum.inl) hr196) fun σ G H E => ?_
      obtain ⟨b197, hb197, hm⟩ := bnd hm
      refine se_if (et_and (et_test (x_eqP (by decide) (E.eb.get (i := 6) rfl) (eb_str (K := K)))) (et_and (et_b (x_isiY kitY_str (E.eb.get (i := 7) rfl))) (et_and (et_test (x_neP (by decide) (x_get2 (E.eb.getO (i := 1) rfl : EvB (A := (Ds (List Str))) K (tVar 1) _ _ (some x_law_rows)) (x_cast (fun h r => y_str h r) (E.eb.get (i := 7) rfl)) ((x_lst (l_nil (K := K)))).b) ((x_lst (l_nil (K := K)))).b)) (et_test (x_gt (x_mod (E.eb.get (i := 5) rfl) (eb_int (K := K))) (eb_int (K := K))))))) hb197 E (fun eb H E => ?_) (fun eb H E => ?_)
      · subst eb
        replace hm := itt hm
        obtain ⟨x_law_member, hx, hm⟩ := bnd hm
        refine se_asg (eo_conv (f := (ToY.to : Str -> Dy)) (fun r => c_toY r) ((x_ixL (x_getD (E.eb.getO (i := 1) rfl : EvB (A := (Ds (List Str))) K (tVar 1) _ _ (some x_law_rows)) (x_cast (fun h r => y_str h r) (E.eb.get (i := 7) rfl))) (x_mod (x_div (E.eb.get (i := 5) rfl) (eb_int (K := K))) (x_lenL (x_getD (E.eb.getO (i := 1) rfl : EvB (A := (Ds (List Str))) K (tVar 1) _ _ (some x_law_rows)) (x_cast (fun h r => y_str h r) (E.eb.get (i := 7) rfl))))))).own) hx E fun σ G H _ E => ?_
        obtain ⟨x_law_due, hx, hm⟩ := bnd hm
        refine se_asg ((eb_if (et_test (x_eqP (by decide) (E.eb.get (i := 6) rfl) (eb_str (K := K)))) (eb_call (em4 (E.eb.getO (i := 1) rfl : EvB (A := (Ds (List Str))) K (tVar 1) _ _ (some x_law_rows)) (E.eb.get (i := 2) rfl) (E.eb.get (i := 7) rfl) (E.eb.get (i := 8) rfl))) (eb_call (em3 (E.eb.getO (i := 1) rfl : EvB (A := (Ds (List Str))) K (tVar 1) _ _ (some x_law_rows)) (E.eb.get (i := 7) rfl) (E.eb.get (i := 8) rfl))))).own hx E fun σ G H _ E => ?_
        obtain ⟨y198, hy198, hm⟩ := bnd hm
        obtain ⟨y199, hy199, hm⟩ := bnd hm
        obtain ⟨y200, hy200, hm⟩ := bnd hm
        obtain ⟨r201, hr201, hm⟩ := bnd hm
        refine se_callP (i := 10) (io := 0) (pre := p_law_tried) (post := q_law_tried) (F := fun a => (m_law_tried a.1 a.2.1 a.2.2.1 a.2.2.2).map (Sum.inl (β := Empty))) (a := (x_law_folk, y198, y199, y200)) (n := 3) rfl (fun _ => rfl) rfl E (ef_cons ((E.eb.get (i := 6) rfl)).own hy198 (ef_cons (E.ef.get (i := 7) rfl) hy199 (ef_cons (E.ef.get (i := 8) rfl) hy200 ef_nil))) (congrArg (Option.map Sum.inl) hr201) fun σ G H E => ?_
        obtain ⟨b202, hb202, hm⟩ := bnd hm
        refine se_if (et_test (x_neP (by decide) (E.eb.get (i := 9) rfl) (eb_str (K := K)))) hb202 E (fun eb H E => ?_) (fun eb H E => ?_)
        · subst eb
          replace hm := itt hm
          obtain ⟨y203, hy203, hm⟩ := bnd hm
          obtain rfl := Option.some.inj hm
          exact E.run ((x_eqY (E.eb.get (i := 10) rfl) (x_conv (f := (ToY.to : (Tl Str) -> Dy)) (fun r => c_toY r) (x_tup (l_cons (E.eb.get (i := 9) rfl) (l_nil (K := K))))))).own hy203 fun v G2 H2 _ _ E2 rv => q _ rfl v G2 H2 ((E2.rebase g0).fin ⟨rfl, ⟨rfl, trivial⟩⟩ rv)
        · subst eb
          replace hm := itf hm
          obtain ⟨x_law_own, hx, hm⟩ := bnd hm
          refine se_asg ((x_lc (i_list (es_b (x_get2 (E.eb.getO (i := 1) rfl : EvB (A := (Ds (List Str))) K (tVar 1) _ _ (some x_law_rows)) (x_cast (fun h r => y_str h r) (E.eb.get (i := 7) rfl)) ((x_lst (l_nil (K := K)))).b))) tg_n (bi_n (by decide)) (fun y204 σc Hc gh204 hb => have B204 := (bd_n (K := K) (A := Str) (j := 12)) _ _ _ _ _ ((E.eb.mono gh204).wipe (js := [("_law_one", 12)])) hb; (et_or (et_test (x_eqP (by decide) (B204.get (i := 6) rfl) (eb_str (K := K)))) (et_test (x_neP (by decide) (B204.get (i := 12) rfl) (x_cast (fun h r => y_str h r) (B204.get (i := 8) rfl)))))) (fun y204 σc Hc gh204 hb => have B204 := (bd_n (K := K) (A := Str) (j := 12)) _ _ _ _ _ ((E.eb.mono gh204).wipe (js := [("_law_one", 12)])) hb; (B204.get (i := 12) rfl)))).own hx E fun σ G H _ E => ?_
          obtain ⟨y205, hy205, hm⟩ := bnd hm
          obtain ⟨y206, hy206, hm⟩ := bnd hm
          obtain ⟨y207, hy207, hm⟩ := bnd hm
          replace hy207 := fSputs hy207
          refine se_dput (i := 1) rfl (fun _ => pl_pin) (eo_cat (E.ef.get (i := 11) rfl) ((x_rep ((x_lst (l_cons (x_cast (fun h r => y_str h r) (E.eb.get (i := 8) rfl)) (l_nil (K := K))))).b (x_intB (eb_and (x_eqP (by decide) (E.eb.get (i := 6) rfl) (eb_str (K := K))) (x_ninL (x_cast (fun h r => y_str h r) (E.eb.get (i := 8) rfl)) (E.eb.get (i := 11) rfl)))))).own) hy205 (x_cast (fun h r => y_str h r) (E.eb.get (i := 7) rfl)) hy206 E hy207.2 fun G H _ E => ?_
          rw [show id (⟨sput _ _ _⟩ : (Ds (List Str))) = ⟨y207⟩ from congrArg Ds.mk hy207.1.symm] at E
          obtain ⟨y208, hy208, hm⟩ := bnd hm
          obtain rfl := Option.some.inj hm
          exact E.run ((x_eqY (E.eb.get (i := 10) rfl) (x_conv (f := (ToY.to : (List Unit) -> Dy)) (fun r => c_toY r) ((x_lst (l_cons (eb_non (K := K)) (l_nil (K := K))))).b))).own hy208 fun v G2 H2 _ _ E2 rv => q _ rfl v G2 H2 ((E2.rebase g0).fin ⟨rfl, ⟨rfl, trivial⟩⟩ rv)
      · subst eb
        replace hm := itf hm
        obtain ⟨x_law_due, hx, hm⟩ := bnd hm
        refine se_asg ((eb_if (et_test (x_eqP (by decide) (E.eb.get (i := 6) rfl) (eb_str (K := K)))) (eb_call (em4 (E.eb.getO (i := 1) rfl : EvB (A := (Ds (List Str))) K (tVar 1) _ _ (some x_law_rows)) (E.eb.get (i := 2) rfl) (E.eb.get (i := 7) rfl) (E.eb.get (i := 8) rfl))) (eb_call (em3 (E.eb.getO (i := 1) rfl : EvB (A := (Ds (List Str))) K (tVar 1) _ _ (some x_law_rows)) (E.eb.get (i := 7) rfl) (E.eb.get (i := 8) rfl))))).own hx E fun σ G H _ E => ?_
        obtain ⟨y209, hy209, hm⟩ := bnd hm
        obtain ⟨y210, hy210, hm⟩ := bnd hm
        obtain ⟨y211, hy211, hm⟩ := bnd hm
        obtain ⟨r212, hr212, hm⟩ := bnd hm
        refine se_callP (i := 10) (io := 0) (pre := p_law_tried) (post := q_law_tried) (F := fun a => (m_law_tried a.1 a.2.1 a.2.2.1 a.2.2.2).map (Sum.inl (β := Empty))) (a := (x_law_folk, y209, y210, y211)) (n := 3) rfl (fun _ => rfl) rfl E (ef_cons ((E.eb.get (i := 6) rfl)).own hy209 (ef_cons (E.ef.get (i := 7) rfl) hy210 (ef_cons (E.ef.get (i := 8) rfl) hy211 ef_nil))) (congrArg (Option.map Sum.inl) hr212) fun σ G H E => ?_
        obtain ⟨b213, hb213, hm⟩ := bnd hm
        refine se_if (et_test (x_neP (by decide) (E.eb.get (i := 9) rfl) (eb_str (K := K)))) hb213 E (fun eb H E => ?_) (fun eb H E => ?_)
        · subst eb
          replace hm := itt hm
          obtain ⟨y214, hy214, hm⟩ := bnd hm
          obtain rfl := Option.some.inj hm
          exact E.run ((x_eqY (E.eb.get (i := 10) rfl) (x_conv (f := (ToY.to : (Tl Str) -> Dy)) (fun r => c_toY r) (x_tup (l_cons (E.eb.get (i := 9) rfl) (l_nil (K := K))))))).own hy214 fun v G2 H2 _ _ E2 rv => q _ rfl v G2 H2 ((E2.rebase g0).fin ⟨rfl, ⟨rfl, trivial⟩⟩ rv)
        · subst eb
          replace hm := itf hm
          obtain ⟨x_law_own, hx, hm⟩ := bnd hm
          refine se_asg ((x_lc (i_list (es_b (x_get2 (E.eb.getO (i := 1) rfl : EvB (A := (Ds (List Str))) K (tVar 1) _ _ (some x_law_rows)) (x_cast (fun h r => y_str h r) (E.eb.get (i := 7) rfl)) ((x_lst (l_nil (K := K)))).b))) tg_n (bi_n (by decide)) (fun y215 σc Hc gh215 hb => have B215 := (bd_n (K := K) (A := Str) (j := 12)) _ _ _ _ _ ((E.eb.mono gh215).wipe (js := [("_law_one", 12)])) hb; (et_or (et_test (x_eqP (by decide) (B215.get (i := 6) rfl) (eb_str (K := K)))) (et_test (x_neP (by decide) (B215.get (i := 12) rfl) (x_cast (fun h r => y_str h r) (B215.get (i := 8) rfl)))))) (fun y215 σc Hc gh215 hb => have B215 := (bd_n (K := K) (A := Str) (j := 12)) _ _ _ _ _ ((E.eb.mono gh215).wipe (js := [("_law_one", 12)])) hb; (B215.get (i := 12) rfl)))).own hx E fun σ G H _ E => ?_
          obtain ⟨y216, hy216, hm⟩ := bnd hm
          obtain ⟨y217, hy217, hm⟩ := bnd hm
          obtain ⟨y218, hy218, hm⟩ := bnd hm
          replace hy218 := fSputs hy218
          refine se_dput (i := 1) rfl (fun _ => pl_pin) (eo_cat (E.ef.get (i := 11) rfl) ((x_rep ((x_lst (l_cons (x_cast (fun h r => y_str h r) (E.eb.get (i := 8) rfl)) (l_nil (K := K))))).b (x_intB (eb_and (x_eqP (by decide) (E.eb.get (i := 6) rfl) (eb_str (K := K))) (x_ninL (x_cast (fun h r => y_str h r) (E.eb.get (i := 8) rfl)) (E.eb.get (i := 11) rfl)))))).own) hy216 (x_cast (fun h r => y_str h r) (E.eb.get (i := 7) rfl)) hy217 E hy218.2 fun G H _ E => ?_
          rw [show id (⟨sput _ _ _⟩ : (Ds (List Str))) = ⟨y218⟩ from congrArg Ds.mk hy218.1.symm] at E
          obtain ⟨y219, hy219, hm⟩ := bnd hm
          obtain rfl := Option.some.inj hm
          exact E.run ((x_eqY (E.eb.get (i := 10) rfl) (x_conv (f := (ToY.to : (List Unit) -> Dy)) (fun r => c_toY r) ((x_lst (l_cons (eb_non (K := K)) (l_nil (K := K))))).b))).own hy219 fun v G2 H2 _ _ E2 rv => q _ rfl v G2 H2 ((E2.rebase g0).fin ⟨rfl, ⟨rfl, trivial⟩⟩ rv)
    · subst eb
      replace hm := itf hm
      obtain ⟨y220, hy220, hm⟩ := bnd hm
      obtain ⟨y221, hy221, hm⟩ := bnd hm
      obtain ⟨y222, hy222, hm⟩ := bnd hm
      obtain ⟨r223, hr223, hm⟩ := bnd hm
      refine se_callF (i := 8) (pre := p_law_thing) (post := q_law_thing) (F := fun a => (m_law_thing a.1 a.2.1 a.2.2).map (Sum.inl (β := Empty))) (a := (y220, y221, y222)) (n := 3) rfl (fun _ => rfl) E (ef_cons ((x_div (E.eb.get (i := 5) rfl) (eb_int (K := K)))).own hy220 (ef_cons (E.ef.get (i := 2) rfl) hy221 (ef_cons (E.ef.get (i := 3) rfl) hy222 ef_nil))) (congrArg (Option.map Sum.inl) hr223) fun σ G H E => ?_
      obtain ⟨b224, hb224, hm⟩ := bnd hm
      refine se_if (et_and (et_test (x_eqP (by decide) (E.eb.get (i := 6) rfl) (eb_str (K := K)))) (et_and (et_b (x_isiY kitY_str (E.eb.get (i := 7) rfl))) (et_and (et_test (x_neP (by decide) (x_get2 (E.eb.getO (i := 1) rfl : EvB (A := (Ds (List Str))) K (tVar 1) _ _ (some x_law_rows)) (x_cast (fun h r => y_str h r) (E.eb.get (i := 7) rfl)) ((x_lst (l_nil (K := K)))).b) ((x_lst (l_nil (K := K)))).b)) (et_test (x_gt (x_mod (E.eb.get (i := 5) rfl) (eb_int (K := K))) (eb_int (K := K))))))) hb224 E (fun eb H E => ?_) (fun eb H E => ?_)
      · subst eb
        replace hm := itt hm
        obtain ⟨x_law_member, hx, hm⟩ := bnd hm
        refine se_asg (eo_conv (f := (ToY.to : Str -> Dy)) (fun r => c_toY r) ((x_ixL (x_getD (E.eb.getO (i := 1) rfl : EvB (A := (Ds (List Str))) K (tVar 1) _ _ (some x_law_rows)) (x_cast (fun h r => y_str h r) (E.eb.get (i := 7) rfl))) (x_mod (x_div (E.eb.get (i := 5) rfl) (eb_int (K := K))) (x_lenL (x_getD (E.eb.getO (i := 1) rfl : EvB (A := (Ds (List Str))) K (tVar 1) _ _ (some x_law_rows)) (x_cast (fun h r => y_str h r) (E.eb.get (i := 7) rfl))))))).own) hx E fun σ G H _ E => ?_
        obtain ⟨x_law_due, hx, hm⟩ := bnd hm
        refine se_asg ((eb_if (et_test (x_eqP (by decide) (E.eb.get (i := 6) rfl) (eb_str (K := K)))) (eb_call (em4 (E.eb.getO (i := 1) rfl : EvB (A := (Ds (List Str))) K (tVar 1) _ _ (some x_law_rows)) (E.eb.get (i := 2) rfl) (E.eb.get (i := 7) rfl) (E.eb.get (i := 8) rfl))) (eb_call (em3 (E.eb.getO (i := 1) rfl : EvB (A := (Ds (List Str))) K (tVar 1) _ _ (some x_law_rows)) (E.eb.get (i := 7) rfl) (E.eb.get (i := 8) rfl))))).own hx E fun σ G H _ E => ?_
        obtain ⟨y225, hy225, hm⟩ := bnd hm
        obtain ⟨y226, hy226, hm⟩ := bnd hm
        obtain ⟨y227, hy227, hm⟩ := bnd hm
        obtain ⟨r228, hr228, hm⟩ := bnd hm
        refine se_callP (i := 10) (io := 0) (pre := p_law_tried) (post := q_law_tried) (F := fun a => (m_law_tried a.1 a.2.1 a.2.2.1 a.2.2.2).map (Sum.inl (β := Empty))) (a := (x_law_folk, y225, y226, y227)) (n := 3) rfl (fun _ => rfl) rfl E (ef_cons ((E.eb.get (i := 6) rfl)).own hy225 (ef_cons (E.ef.get (i := 7) rfl) hy226 (ef_cons (E.ef.get (i := 8) rfl) hy227 ef_nil))) (congrArg (Option.map Sum.inl) hr228) fun σ G H E => ?_
        obtain ⟨b229, hb229, hm⟩ := bnd hm
        refine se_if (et_test (x_neP (by decide) (E.eb.get (i := 9) rfl) (eb_str (K := K)))) hb229 E (fun eb H E => ?_) (fun eb H E => ?_)
        · subst eb
          replace hm := itt hm
          obtain ⟨y230, hy230, hm⟩ := bnd hm
          obtain rfl := Option.some.inj hm
          exact E.run ((x_eqY (E.eb.get (i := 10) rfl) (x_conv (f := (ToY.to : (Tl Str) -> Dy)) (fun r => c_toY r) (x_tup (l_cons (E.eb.get (i := 9) rfl) (l_nil (K := K))))))).own hy230 fun v G2 H2 _ _ E2 rv => q _ rfl v G2 H2 ((E2.rebase g0).fin ⟨rfl, ⟨rfl, trivial⟩⟩ rv)
        · subst eb
          replace hm := itf hm
          obtain ⟨x_law_own, hx, hm⟩ := bnd hm
          refine se_asg ((x_lc (i_list (es_b (x_get2 (E.eb.getO (i := 1) rfl : EvB (A := (Ds (List Str))) K (tVar 1) _ _ (some x_law_rows)) (x_cast (fun h r => y_str h r) (E.eb.get (i := 7) rfl)) ((x_lst (l_nil (K := K)))).b))) tg_n (bi_n (by decide)) (fun y231 σc Hc gh231 hb => have B231 := (bd_n (K := K) (A := Str) (j := 12)) _ _ _ _ _ ((E.eb.mono gh231).wipe (js := [("_law_one", 12)])) hb; (et_or (et_test (x_eqP (by decide) (B231.get (i := 6) rfl) (eb_str (K := K)))) (et_test (x_neP (by decide) (B231.get (i := 12) rfl) (x_cast (fun h r => y_str h r) (B231.get (i := 8) rfl)))))) (fun y231 σc Hc gh231 hb => have B231 := (bd_n (K := K) (A := Str) (j := 12)) _ _ _ _ _ ((E.eb.mono gh231).wipe (js := [("_law_one", 12)])) hb; (B231.get (i := 12) rfl)))).own hx E fun σ G H _ E => ?_
          obtain ⟨y232, hy232, hm⟩ := bnd hm
          obtain ⟨y233, hy233, hm⟩ := bnd hm
          obtain ⟨y234, hy234, hm⟩ := bnd hm
          replace hy234 := fSputs hy234
          refine se_dput (i := 1) rfl (fun _ => pl_pin) (eo_cat (E.ef.get (i := 11) rfl) ((x_rep ((x_lst (l_cons (x_cast (fun h r => y_str h r) (E.eb.get (i := 8) rfl)) (l_nil (K := K))))).b (x_intB (eb_and (x_eqP (by decide) (E.eb.get (i := 6) rfl) (eb_str (K := K))) (x_ninL (x_cast (fun h r => y_str h r) (E.eb.get (i := 8) rfl)) (E.eb.get (i := 11) rfl)))))).own) hy232 (x_cast (fun h r => y_str h r) (E.eb.get (i := 7) rfl)) hy233 E hy234.2 fun G H _ E => ?_
          rw [show id (⟨sput _ _ _⟩ : (Ds (List Str))) = ⟨y234⟩ from congrArg Ds.mk hy234.1.symm] at E
          obtain ⟨y235, hy235, hm⟩ := bnd hm
          obtain rfl := Option.some.inj hm
          exact E.run ((x_eqY (E.eb.get (i := 10) rfl) (x_conv (f := (ToY.to : (List Unit) -> Dy)) (fun r => c_toY r) ((x_lst (l_cons (eb_non (K := K)) (l_nil (K := K))))).b))).own hy235 fun v G2 H2 _ _ E2 rv => q _ rfl v G2 H2 ((E2.rebase g0).fin ⟨rfl, ⟨rfl, trivial⟩⟩ rv)
      · subst eb
        replace hm := itf hm
        obtain ⟨x_law_due, hx, hm⟩ := bnd hm
        refine se_asg ((eb_if (et_test (x_eqP (by decide) (E.eb.get (i := 6) rfl) (eb_str (K := K)))) (eb_call (em4 (E.eb.getO (i := 1) rfl : EvB (A := (Ds (List Str))) K (tVar 1) _ _ (some x_law_rows)) (E.eb.get (i := 2) rfl) (E.eb.get (i := 7) rfl) (E.eb.get (i := 8) rfl))) (eb_call (em3 (E.eb.getO (i := 1) rfl : EvB (A := (Ds (List Str))) K (tVar 1) _ _ (some x_law_rows)) (E.eb.get (i := 7) rfl) (E.eb.get (i := 8) rfl))))).own hx E fun σ G H _ E => ?_
        obtain ⟨y236, hy236, hm⟩ := bnd hm
        obtain ⟨y237, hy237, hm⟩ := bnd hm
        obtain ⟨y238, hy238, hm⟩ := bnd hm
        obtain ⟨r239, hr239, hm⟩ := bnd hm
        refine se_callP (i := 10) (io := 0) (pre := p_law_tried) (post := q_law_tried) (F := fun a => (m_law_tried a.1 a.2.1 a.2.2.1 a.2.2.2).map (Sum.inl (β := Empty))) (a := (x_law_folk, y236, y237, y238)) (n := 3) rfl (fun _ => rfl) rfl E (ef_cons ((E.eb.get (i := 6) rfl)).own hy236 (ef_cons (E.ef.get (i := 7) rfl) hy237 (ef_cons (E.ef.get (i := 8) rfl) hy238 ef_nil))) (congrArg (Option.map Sum.inl) hr239) fun σ G H E => ?_
        obtain ⟨b240, hb240, hm⟩ := bnd hm
        refine se_if (et_test (x_neP (by decide) (E.eb.get (i := 9) rfl) (eb_str (K := K)))) hb240 E (fun eb H E => ?_) (fun eb H E => ?_)
        · subst eb
          replace hm := itt hm
          obtain ⟨y241, hy241, hm⟩ := bnd hm
          obtain rfl := Option.some.inj hm
          exact E.run ((x_eqY (E.eb.get (i := 10) rfl) (x_conv (f := (ToY.to : (Tl Str) -> Dy)) (fun r => c_toY r) (x_tup (l_cons (E.eb.get (i := 9) rfl) (l_nil (K := K))))))).own hy241 fun v G2 H2 _ _ E2 rv => q _ rfl v G2 H2 ((E2.rebase g0).fin ⟨rfl, ⟨rfl, trivial⟩⟩ rv)
        · subst eb
          replace hm := itf hm
          obtain ⟨x_law_own, hx, hm⟩ := bnd hm
          refine se_asg ((x_lc (i_list (es_b (x_get2 (E.eb.getO (i := 1) rfl : EvB (A := (Ds (List Str))) K (tVar 1) _ _ (some x_law_rows)) (x_cast (fun h r => y_str h r) (E.eb.get (i := 7) rfl)) ((x_lst (l_nil (K := K)))).b))) tg_n (bi_n (by decide)) (fun y242 σc Hc gh242 hb => have B242 := (bd_n (K := K) (A := Str) (j := 12)) _ _ _ _ _ ((E.eb.mono gh242).wipe (js := [("_law_one", 12)])) hb; (et_or (et_test (x_eqP (by decide) (B242.get (i := 6) rfl) (eb_str (K := K)))) (et_test (x_neP (by decide) (B242.get (i := 12) rfl) (x_cast (fun h r => y_str h r) (B242.get (i := 8) rfl)))))) (fun y242 σc Hc gh242 hb => have B242 := (bd_n (K := K) (A := Str) (j := 12)) _ _ _ _ _ ((E.eb.mono gh242).wipe (js := [("_law_one", 12)])) hb; (B242.get (i := 12) rfl)))).own hx E fun σ G H _ E => ?_
          obtain ⟨y243, hy243, hm⟩ := bnd hm
          obtain ⟨y244, hy244, hm⟩ := bnd hm
          obtain ⟨y245, hy245, hm⟩ := bnd hm
          replace hy245 := fSputs hy245
          refine se_dput (i := 1) rfl (fun _ => pl_pin) (eo_cat (E.ef.get (i := 11) rfl) ((x_rep ((x_lst (l_cons (x_cast (fun h r => y_str h r) (E.eb.get (i := 8) rfl)) (l_nil (K := K))))).b (x_intB (eb_and (x_eqP (by decide) (E.eb.get (i := 6) rfl) (eb_str (K := K))) (x_ninL (x_cast (fun h r => y_str h r) (E.eb.get (i := 8) rfl)) (E.eb.get (i := 11) rfl)))))).own) hy243 (x_cast (fun h r => y_str h r) (E.eb.get (i := 7) rfl)) hy244 E hy245.2 fun G H _ E => ?_
          rw [show id (⟨sput _ _ _⟩ : (Ds (List Str))) = ⟨y245⟩ from congrArg Ds.mk hy245.1.symm] at E
          obtain ⟨y246, hy246, hm⟩ := bnd hm
          obtain rfl := Option.some.inj hm
          exact E.run ((x_eqY (E.eb.get (i := 10) rfl) (x_conv (f := (ToY.to : (List Unit) -> Dy)) (fun r => c_toY r) ((x_lst (l_cons (eb_non (K := K)) (l_nil (K := K))))).b))).own hy246 fun v G2 H2 _ _ E2 rv => q _ rfl v G2 H2 ((E2.rebase g0).fin ⟨rfl, ⟨rfl, trivial⟩⟩ rv)
/-! _law_asked -/
def m_law_asked (x_law_folk : FolkS) (x_law_rows : (Ds (List Str))) (x_law_people : (List Str)) (x_law_groups : (List Str)) (x_law_mixed_here : Int) : Option (Bool × FolkS × (Ds (List Str))) := ((o2 fDiv (some x_law_mixed_here) (some (3 : Int)))).bind fun y247 => ((some x_law_people)).bind fun y248 => ((some x_law_groups)).bind fun y249 => (m_law_thing y247 y248 y249).bind fun r250 => ((o2 ix (o1 szOk (o2 fCons (some (Str.ofString "in")) (o2 fCons (some (Str.ofString "around")) (o2 fCons (some (Str.ofString "straight")) (some ([] : List Str)))))) (o2 fMod (some x_law_mixed_here) (some (3 : Int))))).bind fun x_law_deed => ((oAnd (o1 (fIsY "str") (some r250)) (oOr (o2 fInD (o1 yStr (some r250)) (some x_law_rows)) (oAnd (o2 fInL (o1 yStr (some r250)) (some x_law_people)) (o2 fNeP (some x_law_deed) (some (Str.ofString "straight"))))))).bind fun x_law_is_there => ((some x_law_deed)).bind fun y251 => ((some r250)).bind fun y252 => ((((some ())).map (ToY.to : Unit -> Dy))).bind fun y253 => (m_law_tried x_law_folk y251 y252 y253).bind fun r254 => ((oNot (some x_law_is_there))).bind fun b255 => if b255 = true then (((o2 fEqY (some r254.1) (((o1 fTup (o2 fCons (some (Str.ofString "name")) (some ([] : List Str))))).map (ToY.to : (Tl Str) -> Dy)))).bind fun y256 => some ((y256, r254.2, x_law_rows))) else (((oAnd (o1 (fIsY "list") (some r254.1)) (oOr (o2 fNeP (some x_law_deed) (some (Str.ofString "straight"))) (o2 fEqY (some r254.1) (((o1 szOk (o2 fCons (o2 fGetD (some x_law_rows) (o1 yStr (some r250))) (some ([] : List (List Str)))))).map (ToY.to : (List (List Str)) -> Dy)))))).bind fun y257 => some ((y257, r254.2, x_law_rows)))
def p_law_asked (a : FolkS × (Ds (List Str)) × (List Str) × (List Str) × Int) : List Slot := [ow oFolk a.1, ow (oS (List Str)) a.2.1, fz a.2.2.1, fz a.2.2.2.1, fz a.2.2.2.2]
def q_law_asked (_ : FolkS × (Ds (List Str)) × (List Str) × (List Str) × Int) (b : (Bool × FolkS × (Ds (List Str)))) : List Slot := fz b.1 :: [ow oFolk b.2.1, ow (oS (List Str)) b.2.2, .un, .un, .un]
abbrev S_law_asked (K : Fg) : Sp := PSe K p_law_asked (fun a => (m_law_asked a.1 a.2.1 a.2.2.1 a.2.2.2.1 a.2.2.2.2).map (Sum.inl (β := Empty))) q_law_asked Empty.elim (fun _ e => e.elim)
set_option maxHeartbeats 4000000 in
theorem ok_law_asked {P : Program} {w : World} {K : Fg} {mg : Str → Option Value} {base : Heap} (T : Txt K mg) : FnOk P w K mg base CX0 7 T.a_law_asked T.d_law_asked ["_law_folk", "_law_rows", "_law_people", "_law_groups", "_law_mixed_here"] (S_law_asked K) := by
  refine T.F_law_asked.ok sc_law_asked (fun vs H Q E h => ?_) (fun cdv A0 outer s H vs Q E0 hr h => ?_)
  · obtain ⟨G, L, a, r, E, _⟩ := h
    have := E.len
    rw [List.length_map] at this
    exact this
  · obtain ⟨G, L, a, r, E, hf, q, _⟩ := h
    obtain ⟨x_law_folk, x_law_rows, x_law_people, x_law_groups, x_law_mixed_here⟩ := a
    obtain ⟨r_fn, hm, rfl⟩ := Option.map_eq_some_iff.mp hf
    have hl := E.len
    rw [List.length_map] at hl
    obtain ⟨v_law_folk, v_law_rows, v_law_people, v_law_groups, v_law_mixed_here, rfl⟩ : exists v_law_folk v_law_rows v_law_people v_law_groups v_law_mixed_here, vs = [v_law_folk, v_law_rows, v_law_people, v_law_groups, v_law_mixed_here] := by
      match vs, hl with
      | [v_law_folk, v_law_rows, v_law_people, v_law_groups, v_law_mixed_here], _ => exact ⟨v_law_folk, v_law_rows, v_law_people, v_law_groups, v_law_mixed_here, rfl⟩
    refine ⟨_, (pss_cons (ps_set (i := 5) sc_law_asked.nd rfl (by first | exact Or.inl rfl | exact Or.inr rfl) (pe_call (ok_law_thing T) (hr.mono (by decide)) (by rfl) T.g_law_thing T.F_law_thing.kp T.b_law_thing .nil pass0 (pa_cons (pe_op op_fdiv (pv 4) pe_int) (pa_cons (pv 2) (pa_cons (pv 3) pa_nil))))) (pss_cons (ps_set (i := 6) sc_law_asked.nd rfl (by first | exact Or.inl rfl | exact Or.inr rfl) (pe_ix (ixL_K (K := K) rfl) (pe_lst (pa_cons pe_str (pa_cons pe_str (pa_cons pe_str pa_nil)))) (pe_op op_mod (pv 4) pe_int) (fun _ _ => rfl))) (pss_cons (ps_set (i := 7) sc_law_asked.nd rfl (by first | exact Or.inl rfl | exact Or.inr rfl) (pe_and (pe_callB (isi_K (K := K) rfl) (by rfl) T.n_isinstance bb_isinstance (pa_cons (pv 5) (pa_cons (pe_bltn (v := .ty "str") (by rfl) T.n_str bb_str rfl) pa_nil))) (pe_one (pe_or (pe_cmp (pc_din (hu_of hr) (pv 5) (pv 1))) (pe_one (pe_and (pe_cmpR (opIn_K (K := K) rfl) (pv 5) (pv 2) (by rfl)) (pe_one (pe_cmpR (opNe_K (K := K) rfl hr.units) (pv 6) pe_str (nomark _))))))))) (pss_cons (ps_set (i := 8) sc_law_asked.nd rfl (by first | exact Or.inl rfl | exact Or.inr rfl) (pe_call (ok_law_tried T) (hr.mono (by decide)) (by rfl) T.g_law_tried T.F_law_tried.kp T.b_law_tried .nil pass0 (pa_cons (pv 0) (pa_cons (pv 6) (pa_cons (pv 5) (pa_cons pe_non pa_nil)))))) (pss_cons (ps_if (pt_not (pt_val (pv 7))) (pss_cons (ps_ret (pe_cmpR (opEq_K (K := K) rfl hr.units) (pv 8) (pe_tup (pa_cons pe_str pa_nil)) (nomark _))) pss_nil) pss_nil) (pss_cons (ps_ret (pe_and (pe_callB (isi_K (K := K) rfl) (by rfl) T.n_isinstance bb_isinstance (pa_cons (pv 8) (pa_cons (pe_bltn (v := .ty "list") (by rfl) T.n_list bb_list rfl) pa_nil))) (pe_one (pe_or (pe_cmpR (opNe_K (K := K) rfl hr.units) (pv 6) pe_str (nomark _)) (pe_one (pe_cmpR (opEq_K (K := K) rfl hr.units) (pv 8) (pe_lst (pa_cons (pe_dget (hu_of hr) (pv 1) (pv 5) (fun _ _ => rfl)) pa_nil)) (nomark _))))))) pss_nil)))))), ?_⟩
    unfold m_law_asked at hm
    replace E : Env K G G H L _ ([ow oFolk (x_law_folk : FolkS), ow (oS (List Str)) (x_law_rows : (Ds (List Str))), fz (x_law_people : (List Str)), fz (x_law_groups : (List Str)), fz (x_law_mixed_here : Int)] ++ List.replicate 4 .un) := E.start (vs := [v_law_folk, v_law_rows, v_law_people, v_law_groups, v_law_mixed_here]) 4
    replace E := E.pin (i := 0) (v := v_law_folk) rfl rfl
    replace E := E.pin (i := 1) (v := v_law_rows) rfl rfl
    have g0 : Gx G G := Gx.rfl
    clear hf
    obtain ⟨y247, hy247, hm⟩ := bnd hm
    obtain ⟨y248, hy248, hm⟩ := bnd hm
    obtain ⟨y249, hy249, hm⟩ := bnd hm
    obtain ⟨r250, hr250, hm⟩ := bnd hm
    refine se_callF (i := 5) (pre := p_law_thing) (post := q_law_thing) (F := fun a => (m_law_thing a.1 a.2.1 a.2.2).map (Sum.inl (β := Empty))) (a := (y247, y248, y249)) (n := 3) rfl (fun _ => rfl) E (ef_cons ((x_div (E.eb.get (i := 4) rfl) (eb_int (K := K)))).own hy247 (ef_cons (E.ef.get (i := 2) rfl) hy248 (ef_cons (E.ef.get (i := 3) rfl) hy249 ef_nil))) (congrArg (Option.map Sum.inl) hr250) fun σ G H E => ?_
    obtain ⟨x_law_deed, hx, hm⟩ := bnd hm
    refine se_asg ((x_ixL ((x_lst (l_cons (eb_str (K := K)) (l_cons (eb_str (K := K)) (l_cons (eb_str (K := K)) (l_nil (K := K))))))).b (x_mod (E.eb.get (i := 4) rfl) (eb_int (K := K))))).own hx E fun σ G H _ E => ?_
    obtain ⟨x_law_is_there, hx, hm⟩ := bnd hm
    refine se_asg ((eb_and (x_isiY kitY_str (E.eb.get (i := 5) rfl)) (eb_or (x_inD (x_cast (fun h r => y_str h r) (E.eb.get (i := 5) rfl)) (E.eb.getO (i := 1) rfl : EvB (A := (Ds (List Str))) K (tVar 1) _ _ (some x_law_rows))) (eb_and (x_inL (x_cast (fun h r => y_str h r) (E.eb.get (i := 5) rfl)) (E.eb.get (i := 2) rfl)) (x_neP (by decide) (E.eb.get (i := 6) rfl) (eb_str (K := K))))))).own hx E fun σ G H _ E => ?_
    obtain ⟨y251, hy251, hm⟩ := bnd hm
    obtain ⟨y252, hy252, hm⟩ := bnd hm
    obtain ⟨y253, hy253, hm⟩ := bnd hm
    obtain ⟨r254, hr254, hm⟩ := bnd hm
    refine se_callP (i := 8) (io := 0) (pre := p_law_tried) (post := q_law_tried) (F := fun a => (m_law_tried a.1 a.2.1 a.2.2.1 a.2.2.2).map (Sum.inl (β := Empty))) (a := (x_law_folk, y251, y252, y253)) (n := 3) rfl (fun _ => rfl) rfl E (ef_cons ((E.eb.get (i := 6) rfl)).own hy251 (ef_cons (E.ef.get (i := 5) rfl) hy252 (ef_cons (eo_conv (f := (ToY.to : Unit -> Dy)) (fun r => c_toY r) ((eb_non (K := K))).own) hy253 ef_nil))) (congrArg (Option.map Sum.inl) hr254) fun σ G H E => ?_
    obtain ⟨b255, hb255, hm⟩ := bnd hm
    refine se_if (et_not (et_b (E.eb.get (i := 7) rfl))) hb255 E (fun eb H E => ?_) (fun eb H E => ?_)
    · subst eb
      replace hm := itt hm
      obtain ⟨y256, hy256, hm⟩ := bnd hm
      obtain rfl := Option.some.inj hm
      exact E.run ((x_eqY (E.eb.get (i := 8) rfl) (x_conv (f := (ToY.to : (Tl Str) -> Dy)) (fun r => c_toY r) (x_tup (l_cons (eb_str (K := K)) (l_nil (K := K))))))).own hy256 fun v G2 H2 _ _ E2 rv => q _ rfl v G2 H2 ((E2.rebase g0).fin ⟨rfl, ⟨rfl, trivial⟩⟩ rv)
    · subst eb
      replace hm := itf hm
      obtain ⟨y257, hy257, hm⟩ := bnd hm
      obtain rfl := Option.some.inj hm
      exact E.run ((eb_and (x_isiY kitY_list (E.eb.get (i := 8) rfl)) (eb_or (x_neP (by decide) (E.eb.get (i := 6) rfl) (eb_str (K := K))) (x_eqY (E.eb.get (i := 8) rfl) (x_conv (f := (ToY.to : (List (List Str)) -> Dy)) (fun r => c_toY r) ((x_lst (l_cons (x_getD (E.eb.getO (i := 1) rfl : EvB (A := (Ds (List Str))) K (tVar 1) _ _ (some x_law_rows)) (x_cast (fun h r => y_str h r) (E.eb.get (i := 5) rfl))) (l_nil (K := K))))).b))))).own hy257 fun v G2 H2 _ _ E2 rv => q _ rfl v G2 H2 ((E2.rebase g0).fin ⟨rfl, ⟨rfl, trivial⟩⟩ rv)
end Law

set_option Elab.async false
set_option linter.all false
set_option maxRecDepth 100000
namespace Law
open PySem PySem.Spec PyProof.Rows L2 Pu
open Pu.Rp (rp)
theorem st_lst2 {ta tb : TE} {u : TS} {X : Ends} {σ : L2.St} {H : Hp} {i : Nat} (h : ta σ H fun x H1 => tb σ H1 fun y H2 => ∀ p, H2 p = none → u X (σ.set i (some (.ref p))) (upd H2 p (.lst [x, y]))) : tSeq (tAsg (tLst (tCons ta (tCons tb tNil))) (gName i)) u X σ H := by
  have h2 : ta σ H fun x H1 => tb σ H1 fun y H2 => (2 ≤ sizeLine ∧ ∀ p, H2 p = none → u X (σ.set i (some (.ref p))) (upd H2 p (.lst [x, y]))) := by
    have e : (fun x H1 => tb σ H1 fun y H2 => (2 ≤ sizeLine ∧ ∀ p, H2 p = none → u X (σ.set i (some (.ref p))) (upd H2 p (.lst [x, y])))) = (fun x H1 => tb σ H1 fun y H2 => ∀ p, H2 p = none → u X (σ.set i (some (.ref p))) (upd H2 p (.lst [x, y]))) := by
      funext x H1
      congr 1
      funext y H2
      exact propext ⟨fun z => z.2, fun z => ⟨by decide, z⟩⟩
    rw [e]; exact h
  exact h2
abbrev S2 := List FolkS × List (Ds (List Str))
def m_law_l1 (people groups : List Str) (s : S2) (x : Int × Int) : Option (S2 ⊕ Bool) :=
  (o2 m_law_mixed (some x.2) (o2 fAdd (some (3 : Int)) (some x.1))).bind fun mixed =>
  (o2 fMod (some mixed) (some (2 : Int))).bind fun who =>
  (ixN s.1.length who).bind fun j1 => (s.1[j1]?).bind fun f => (ixN s.2.length who).bind fun j2 => (s.2[j2]?).bind fun r =>
  (o2 fDiv (some mixed) (some (2 : Int))).bind fun half =>
  (o2 m_law_mixed (some x.2) (o2 fAdd (some (200 : Int)) (some x.1))).bind fun more =>
  (m_law_done f r people groups half more).bind fun d =>
  if (!d.1) = true then some (Sum.inr false) else
  (ixN (s.1.set j1 d.2.1).length who).bind fun j3 => ((s.1.set j1 d.2.1)[j3]?).bind fun f => (ixN (s.2.set j2 d.2.2).length who).bind fun j4 => ((s.2.set j2 d.2.2)[j4]?).bind fun r =>
  (o2 m_law_mixed (some x.2) (o2 fAdd (some (400 : Int)) (some x.1))).bind fun ask =>
  (m_law_asked f r people groups ask).bind fun a =>
  if (!a.1) = true then some (Sum.inr false) else
  (oOr (oNot (o2 m_law_stands (o2 ix (some ((s.1.set j1 d.2.1).set j3 a.2.1)) (some who)) (o2 ix (some ((s.2.set j2 d.2.2).set j4 a.2.2)) (some who))))
    (oNot (o2 m_law_stands (o2 ix (some ((s.1.set j1 d.2.1).set j3 a.2.1)) (o2 fSub (some (1 : Int)) (some who))) (o2 ix (some ((s.2.set j2 d.2.2).set j4 a.2.2)) (o2 fSub (some (1 : Int)) (some who)))))).bind fun b =>
  if b = true then some (Sum.inr false) else some (Sum.inl ((s.1.set j1 d.2.1).set j3 a.2.1, (s.2.set j2 d.2.2).set j4 a.2.2))
def m_law_end (people : List Str) (s : S2) : Option Bool :=
  (ixN s.1.length (0 : Int)).bind fun j => (s.1[j]?).bind fun f => (o2 ix (some people) (some (0 : Int))).bind fun p =>
  (m_law_tried f (Str.ofString "put") (.str p) (.str p)).bind fun t =>
  oAnd (o2 fEqY (some t.1) ((o1 fTup (o2 fCons (some (Str.ofString "name")) (some []))).map (ToY.to : Tl Str -> Dy))) (o2 m_law_stands (o2 ix (some (s.1.set j t.2)) (some (0 : Int))) (o2 ix (some s.2) (some (0 : Int))))
def m_law (x_law_script : Scr) : Option Bool :=
  (o1 m_law_words (some x_law_script)).bind fun y => (o1 fList (some y.1)).bind fun nm => (o1 fList (some y.1)).bind fun nm2 =>
  ((o3 fCutS (some x_law_script) ((some (2 : Int)).map some) ((some (120 : Int)).map some)).map enum).bind fun xs =>
  (loopM (m_law_l1 y.1 y.2) (([⟨nm, []⟩, ⟨nm2, []⟩], [⟨[]⟩, ⟨[]⟩]) : S2) xs).bind fun res => fin (m_law_end y.1) res
section
variable {K : Fg} {σ : L2.St} {G0 G G' H H' : Hp} {L L' : Led} {ρ ρ' : List Slot}
theorem Env.perm (E : Pu.Env K G0 G H L σ ρ) (p : L.Perm L') : Pu.Env K G0 G H L' σ ρ := by
  obtain ⟨es, r, a⟩ := E.er
  exact ⟨E.g0, es, r, a.perm (p.append_left es)⟩
theorem Env.folk {te : TE} {E0 : XK} {names : List Str} {Cc : Addr} {m : Option (List Str)} (E : Pu.Env K G0 G H L σ ρ) (iC : isC K "Folk" Cc) (h : EvB K te σ H m) (hm : m = some names) {Q : VK}
    (k : forall v es G2 H2, Gx G G2 -> Pu.Env K G0 G2 H2 (es ++ L) σ ρ -> FoW K G2 v ⟨names, []⟩ es -> Q v H2) : tMake Cc (PSi K) [] E0 (tCons te tNil) σ H Q := by
  obtain ⟨es, r, a⟩ := E.er
  exact ev_folk iC a h hm fun v es1 G2 H2 g A w => k v es1 G2 H2 g ⟨E.g0.trans g, es, r.mono g, A.perm Pu.p1⟩ w
theorem Env.add {p : Addr} {o : HO} (m : Mu o) (E : Pu.Env K G0 G H L σ ρ) (hp : H p = none) : Pu.Env K G0 G (upd H p o) ([(p, o)] ++ L) σ ρ := by
  obtain ⟨es, r, a⟩ := E.er
  exact ⟨E.g0, es, r, (a.add hp m).perm (show ([(p, o)] ++ (es ++ L)).Perm _ from Pu.p1)⟩
end
set_option maxHeartbeats 4000000 in
theorem ok_law {P : Program} {w : World} {K : Fg} {mg : Str → Option Value} {base : Heap} (T : Txt K mg) : FnOk P w K mg base CX0 8 T.a_law T.d_law ["_law_script"] (PSb K (A1 K m_law)) := by
  refine T.F_law.ok sc_law (fun vs H Q E h => ?_) (fun cdv A0 outer s H vs Q E hr h => ?_)
  · obtain ⟨r, ⟨v_law_script, x_law_script, rfl, r_law_script, hm⟩, q⟩ := h
    rfl
  · obtain ⟨r_fn, ⟨v_law_script, script, rfl, r_law_script, hm⟩, q⟩ := h
    refine ⟨_, (pss_cons (ps_asg (pe_call (ok_law_words T) (hr.mono (by decide)) (by rfl) T.g_law_words T.F_law_words.kp T.b_law_words .nil pass0 (pa_cons (pv 0) pa_nil)) (pg_tup rfl (pgs_cons (pg_name (i := 1) sc_law.nd rfl (by first | exact Or.inl rfl | exact Or.inr rfl)) (pgs_cons (pg_name (i := 2) sc_law.nd rfl (by first | exact Or.inl rfl | exact Or.inr rfl)) pgs_nil))))
      (pss_cons (ps_set (i := 3) sc_law.nd rfl (by first | exact Or.inl rfl | exact Or.inr rfl) (pe_lst (pa_cons (pe_make T.K_Folk (ok_Folk___init__ T) (hr.mono (by decide)) (by rfl) T.g_Folk T.b_Folk___init__ .nil pass0 (pa_cons (pe_callTy (lof_K (K := K) rfl) (by rfl) T.n_list bb_list (pa_cons (pv 1) pa_nil)) pa_nil)) (pa_cons (pe_make T.K_Folk (ok_Folk___init__ T) (hr.mono (by decide)) (by rfl) T.g_Folk T.b_Folk___init__ .nil pass0 (pa_cons (pe_callTy (lof_K (K := K) rfl) (by rfl) T.n_list bb_list (pa_cons (pv 1) pa_nil)) pa_nil)) pa_nil))))
      (pss_cons (ps_set (i := 4) sc_law.nd rfl (by first | exact Or.inl rfl | exact Or.inr rfl) (pe_lst (pa_cons pe_dnewK (pa_cons pe_dnewK pa_nil))))
      (pss_cons (ps_for PassesOwn.never rfl (pi_enum (by rfl) T.n_enumerate (pa_cons (pe_slice (slL_K (K := K) rfl) (pv 0) (po_some pe_int) (po_some pe_int)) pa_nil)) (pg_tup rfl (pgs_cons (pg_name (i := 5) sc_law.nd rfl (by first | exact Or.inl rfl | exact Or.inr rfl)) (pgs_cons (pg_name (i := 6) sc_law.nd rfl (by first | exact Or.inl rfl | exact Or.inr rfl)) pgs_nil))) (pss_cons (ps_set (i := 7) sc_law.nd rfl (by first | exact Or.inl rfl | exact Or.inr rfl) (pe_call (ok_law_mixed T) (hr.mono (by decide)) (by rfl) T.g_law_mixed T.F_law_mixed.kp T.b_law_mixed .nil pass0 (pa_cons (pv 6) (pa_cons (pe_op op_add pe_int (pv 5)) pa_nil))))
      (pss_cons (ps_set (i := 8) sc_law.nd rfl (by first | exact Or.inl rfl | exact Or.inr rfl) (pe_op op_mod (pv 7) pe_int))
      (pss_cons (ps_if (pt_not (pt_val (pe_call (ok_law_done T) (hr.mono (by decide)) (by rfl) T.g_law_done T.F_law_done.kp T.b_law_done .nil pass0 (pa_cons (pe_ix (ixL_K (K := K) rfl) (pv 3) (pv 8) (fun _ _ => rfl)) (pa_cons (pe_ix (ixL_K (K := K) rfl) (pv 4) (pv 8) (fun _ _ => rfl)) (pa_cons (pv 1) (pa_cons (pv 2) (pa_cons (pe_op op_fdiv (pv 7) pe_int) (pa_cons (pe_call (ok_law_mixed T) (hr.mono (by decide)) (by rfl) T.g_law_mixed T.F_law_mixed.kp T.b_law_mixed .nil pass0 (pa_cons (pv 6) (pa_cons (pe_op op_add pe_int (pv 5)) pa_nil))) pa_nil))))))))) (pss_cons (ps_ret pe_bl) pss_nil) pss_nil)
      (pss_cons (ps_if (pt_not (pt_val (pe_call (ok_law_asked T) (hr.mono (by decide)) (by rfl) T.g_law_asked T.F_law_asked.kp T.b_law_asked .nil pass0 (pa_cons (pe_ix (ixL_K (K := K) rfl) (pv 3) (pv 8) (fun _ _ => rfl)) (pa_cons (pe_ix (ixL_K (K := K) rfl) (pv 4) (pv 8) (fun _ _ => rfl)) (pa_cons (pv 1) (pa_cons (pv 2) (pa_cons (pe_call (ok_law_mixed T) (hr.mono (by decide)) (by rfl) T.g_law_mixed T.F_law_mixed.kp T.b_law_mixed .nil pass0 (pa_cons (pv 6) (pa_cons (pe_op op_add pe_int (pv 5)) pa_nil))) pa_nil)))))))) (pss_cons (ps_ret pe_bl) pss_nil) pss_nil)
      (pss_cons (ps_if (PW.pt (pw_or (pt_not (pt_val (pe_call (ok_law_stands T) (hr.mono (by decide)) (by rfl) T.g_law_stands T.F_law_stands.kp T.b_law_stands .nil pass0 (pa_cons (pe_ix (ixL_K (K := K) rfl) (pv 3) (pv 8) (fun _ _ => rfl)) (pa_cons (pe_ix (ixL_K (K := K) rfl) (pv 4) (pv 8) (fun _ _ => rfl)) pa_nil))))) (pw_or1 (pt_not (pt_val (pe_call (ok_law_stands T) (hr.mono (by decide)) (by rfl) T.g_law_stands T.F_law_stands.kp T.b_law_stands .nil pass0 (pa_cons (pe_ix (ixL_K (K := K) rfl) (pv 3) (pe_op op_sub pe_int (pv 8)) (fun _ _ => rfl)) (pa_cons (pe_ix (ixL_K (K := K) rfl) (pv 4) (pe_op op_sub pe_int (pv 8)) (fun _ _ => rfl)) pa_nil)))))))) (pss_cons (ps_ret pe_bl) pss_nil) pss_nil)
      pss_nil))))))
      (pss_cons (ps_ret (pe_and (pe_cmpR (opEq_K (K := K) rfl hr.units) (pe_call (ok_law_tried T) (hr.mono (by decide)) (by rfl) T.g_law_tried T.F_law_tried.kp T.b_law_tried .nil pass0 (pa_cons (pe_ix (ixL_K (K := K) rfl) (pv 3) pe_int (fun _ _ => rfl)) (pa_cons pe_str (pa_cons (pe_ix (ixL_K (K := K) rfl) (pv 1) pe_int (fun _ _ => rfl)) (pa_cons (pe_ix (ixL_K (K := K) rfl) (pv 1) pe_int (fun _ _ => rfl)) pa_nil))))) (pe_tup (pa_cons pe_str pa_nil)) (nomark _)) (pe_one (pe_call (ok_law_stands T) (hr.mono (by decide)) (by rfl) T.g_law_stands T.F_law_stands.kp T.b_law_stands .nil pass0 (pa_cons (pe_ix (ixL_K (K := K) rfl) (pv 3) pe_int (fun _ _ => rfl)) (pa_cons (pe_ix (ixL_K (K := K) rfl) (pv 4) pe_int (fun _ _ => rfl)) pa_nil))))))
      pss_nil))))), ?_⟩
    unfold m_law at hm
    obtain ⟨H0, g0, q⟩ := heapB q
    have E : Pu.Env K H H H [] (some v_law_script :: List.replicate 8 none) (fz script :: List.replicate 8 .un) := ⟨Gx.rfl, [], ⟨[], [], ⟨rfl, v_law_script, rfl, r_law_script⟩, er_nones 8, rfl⟩, At.nil H⟩
    clear r_law_script
    obtain ⟨y, hy, hm⟩ := bnd hm
    refine se_asgPB (eb_call (em1 (E.eb.get (i := 0) rfl))) hy (te_p te_n te_n) E rfl fun σ G H _ E => ?_
    obtain ⟨nm, hnm, hm⟩ := bnd hm
    obtain ⟨nm2, hnm2, hm⟩ := bnd hm
    refine st_lst2 ?_
    refine Env.folk E T.i_Folk (x_list (E.eb.get (A := List Str) (i := 1) rfl)).b hnm fun v1 es1 G1 H1 g1 E w1 => ?_
    refine Env.folk E T.i_Folk (x_list (E.eb.get (A := List Str) (i := 1) rfl)).b hnm2 fun v2 es2 G2 H2 g2 E w2 => fun pf hpf => ?_
    have gp := Gx.new (o := HO.lst [v1, v2]) ((E.er.choose_spec.2).gn hpf)
    have E := E.both (o := HO.lst [v1, v2]) hpf
    have E := Env.perm (L' := (es1 ++ (es2 ++ [])) ++ []) E (by simp only [List.append_nil]; exact List.perm_append_comm)
    have E := E.setO (i := 3) (d := oLs oFolk) (x := ([⟨nm, []⟩, ⟨nm2, []⟩] : List FolkS)) (v := .ref pf) (show 3 < 9 by decide) ⟨pf, [v1, v2], rfl, upd_same, es1, es2 ++ [], fow_mono (g2.trans gp) w1, ⟨es2, [], fow_mono gp w2, rfl, rfl⟩, rfl⟩
    generalize upd G2 pf (.lst [v1, v2]) = G3 at *
    generalize upd H2 pf (.lst [v1, v2]) = H3 at *
    refine st_lst2 fun p1 hp1 => fun p2 hp2 => fun pr hpr => ?_
    have E := Env.add (o := HO.dK []) trivial E hp1
    have E := Env.add (o := HO.dK []) trivial E hp2
    have gp := Gx.new (o := HO.lst [V.ref p1, V.ref p2]) ((E.er.choose_spec.2).gn hpr)
    have E := E.both (o := HO.lst [V.ref p1, V.ref p2]) hpr
    have E := Env.perm (L' := ([(p1, HO.dK [])] ++ ([(p2, HO.dK [])] ++ [])) ++ []) E (by simp only [List.append_nil]; exact List.Perm.swap _ _ _)
    have E := E.setO (i := 4) (d := oLs (oS (List Str))) (x := ([⟨[]⟩, ⟨[]⟩] : List (Ds (List Str)))) (v := .ref pr) (show 4 < 9 by decide) ⟨pr, [V.ref p1, V.ref p2], rfl, upd_same, [(p1, HO.dK [])], [(p2, HO.dK [])] ++ [], ⟨p1, [], rfl, rfl, trivial⟩, ⟨[(p2, HO.dK [])], [], ⟨p2, [], rfl, rfl, trivial⟩, rfl, rfl⟩, rfl⟩
    generalize upd G3 pr (.lst [V.ref p1, V.ref p2]) = G4 at *
    generalize upd (upd (upd H3 p1 (.dK [])) p2 (.dK [])) pr (.lst [V.ref p1, V.ref p2]) = H4 at *
    obtain ⟨xs, hx, hm⟩ := bnd hm
    obtain ⟨res, hl, hm⟩ := bnd hm
    have hmL := hm
    refine se_for (io_enum ((x_cutS (E.eb.get (i := 0) rfl) (ep_some (eb_int (K := K))) (ep_some (eb_int (K := K)))).own)) hx (E.forget (ρ' := [fz script, fz y.1, fz y.2, ow (oLs oFolk) ([⟨nm, []⟩, ⟨nm2, []⟩] : List FolkS), ow (oLs (oS (List Str))) ([⟨[]⟩, ⟨[]⟩] : List (Ds (List Str))), .un, .un, .un, .un]) ⟨.inl rfl, .inl rfl, .inl rfl, .inl rfl, .inl rfl, .inl rfl, .inl rfl, .inl rfl, .inl rfl, trivial⟩) fun J S0 H5 _ E wk => ?_
    have g1 := g0.trans E.g0
    refine se_loop (fun s => [fz script, fz y.1, fz y.2, ow (oLs oFolk) s.1, ow (oLs (oS (List Str))) s.2, .un, .un, .un, .un]) wk hl (te_p te_n te_n) E (fun s x o σ G H hxm hf hr E => ?_) (fun s1 σ G H hres E => ?_)
    · have hm := hf
      unfold m_law_l1 at hm
      have hret := fun r h => finr (r := r) (hr r h) hmL
      have out : forall {σ : L2.St} {G' H' : Hp} {L' : Led} {ρ : List Slot} {X : Ends} {u : TS} {b : Bool}, X.rt = Q -> Pu.Env K S0 G' H' L' σ ρ -> o = .inr b -> b = false -> tSeq (tRet (tC (.bl false))) u X σ H' := by
        intro σ G' H' L' ρ X u b hX E ho hb
        subst hb
        have er := hret false ho
        show X.rt (.bl false) H'
        rw [hX]
        subst er
        exact q (.bl false) H' (g1.trans E.gx) rfl
      obtain ⟨mixed, hx, hm⟩ := bnd hm
      refine se_asg (eb_call (em2 (E.eb.get (i := 6) rfl) (x_add (eb_int (K := K)) (E.eb.get (i := 5) rfl)))).own hx E fun σ G H _ E => ?_
      obtain ⟨who, hw, hm⟩ := bnd hm
      refine se_asg (x_mod (E.eb.get (i := 7) rfl) (eb_int (K := K))).own hw E fun σ G H _ E => ?_
      obtain ⟨j1, hj1, hm⟩ := bnd hm
      obtain ⟨f1, hf1, hm⟩ := bnd hm
      obtain ⟨j2, hj2, hm⟩ := bnd hm
      obtain ⟨r1, hr1, hm⟩ := bnd hm
      obtain ⟨half, hhalf, hm⟩ := bnd hm
      obtain ⟨more, hmore, hm⟩ := bnd hm
      obtain ⟨d, hd, hm⟩ := bnd hm
      refine Env.call2 (i1 := 3) (i2 := 4) (n := 4) (pre := p_law_done) (post := q_law_done) (a := (f1, r1, y.1, y.2, half, more)) (b := d) rfl (fun _ => rfl) (by decide) rfl rfl (pl_ix (E.eb.get (i := 8) rfl) rfl hj1 hf1) (pl_ix (E.eb.get (i := 8) rfl) rfl hj2 hr1) E
        (ef_cons (E.ef.get (i := 1) rfl) rfl (ef_cons (E.ef.get (i := 2) rfl) rfl (ef_cons (x_div (E.eb.get (i := 7) rfl) (eb_int (K := K))).own hhalf (ef_cons (eb_call (em2 (E.eb.get (i := 6) rfl) (x_add (eb_int (K := K)) (E.eb.get (i := 5) rfl)))).own hmore ef_nil)))) (congrArg (Option.map Sum.inl) hd) fun v G H E rv => ?_
      refine ⟨d.1, rv, ?_⟩
      cases hd1 : d.1 with
      | false =>
        rw [hd1] at hm
        exact out rfl E (Option.some.inj hm).symm rfl
      | true =>
        rw [hd1] at hm
        obtain ⟨j3, hj3, hm⟩ := bnd (itf hm)
        obtain ⟨f2, hf2, hm⟩ := bnd hm
        obtain ⟨j4, hj4, hm⟩ := bnd hm
        obtain ⟨r2, hr2, hm⟩ := bnd hm
        obtain ⟨ask, hask, hm⟩ := bnd hm
        obtain ⟨a, ha, hm⟩ := bnd hm
        refine Pu.ite_ff ?_
        refine Env.call2 (i1 := 3) (i2 := 4) (n := 3) (pre := p_law_asked) (post := q_law_asked) (a := (f2, r2, y.1, y.2, ask)) (b := a) rfl (fun _ => rfl) (by decide) rfl rfl (pl_ix (E.eb.get (i := 8) rfl) rfl hj3 hf2) (pl_ix (E.eb.get (i := 8) rfl) rfl hj4 hr2) E
          (ef_cons (E.ef.get (i := 1) rfl) rfl (ef_cons (E.ef.get (i := 2) rfl) rfl (ef_cons (eb_call (em2 (E.eb.get (i := 6) rfl) (x_add (eb_int (K := K)) (E.eb.get (i := 5) rfl)))).own hask ef_nil))) (congrArg (Option.map Sum.inl) ha) fun v G H E rv => ?_
        refine ⟨a.1, rv, ?_⟩
        cases ha1 : a.1 with
        | false =>
          rw [ha1] at hm
          exact out rfl E (Option.some.inj hm).symm rfl
        | true =>
          rw [ha1] at hm
          obtain ⟨b, hb, hm⟩ := bnd (itf hm)
          refine Pu.ite_ff ?_
          refine se_if (et_or (et_not (et_b (eb_call (em2 (x_ixL (E.eb.getO (d := oLs oFolk) (i := 3) rfl : EvB (A := List FolkS) K (tVar 3) _ _ _) (E.eb.get (i := 8) rfl)) (x_ixL (E.eb.getO (d := oLs (oS (List Str))) (i := 4) rfl : EvB (A := List (Ds (List Str))) K (tVar 4) _ _ _) (E.eb.get (i := 8) rfl))))))
            (et_not (et_b (eb_call (em2 (x_ixL (E.eb.getO (d := oLs oFolk) (i := 3) rfl : EvB (A := List FolkS) K (tVar 3) _ _ _) (x_sub (eb_int (K := K)) (E.eb.get (i := 8) rfl))) (x_ixL (E.eb.getO (d := oLs (oS (List Str))) (i := 4) rfl : EvB (A := List (Ds (List Str))) K (tVar 4) _ _ _) (x_sub (eb_int (K := K)) (E.eb.get (i := 8) rfl)))))))) hb E (fun eb H E => ?_) (fun eb H E => ?_)
          · subst eb
            exact out rfl E (Option.some.inj (itt hm)).symm rfl
          · subst eb
            exact ⟨_, _, (Option.some.inj (itf hm)).symm, E.forget ⟨.inl rfl, .inl rfl, .inl rfl, .inl rfl, .inl rfl, .inr rfl, .inr rfl, .inr rfl, .inr rfl, trivial⟩⟩
    · subst hres
      replace hm := finl hm
      unfold m_law_end at hm
      have g2 := g0.trans E.gx
      obtain ⟨j, hj, hm⟩ := bnd hm
      obtain ⟨f, hf, hm⟩ := bnd hm
      obtain ⟨p, hp, hm⟩ := bnd hm
      obtain ⟨t, ht, hm⟩ := bnd hm
      refine Env.call1 (io := 3) (n := 3) (pre := p_law_tried) (post := q_law_tried) (a := (f, Str.ofString "put", .str p, .str p)) (b := t) rfl (fun _ => rfl) rfl (pl_ix (eb_int (K := K)) rfl hj hf) E
        (ef_cons (eb_str (K := K)).own rfl (ef_cons (m := ((some p).map (ToY.to : Str -> Dy))) (eo_conv (f := (ToY.to : Str -> Dy)) (fun r => c_toY r) (hp ▸ (x_ixL (E.eb.get (i := 1) rfl) (eb_int (K := K)))).own) rfl (ef_cons (m := ((some p).map (ToY.to : Str -> Dy))) (eo_conv (f := (ToY.to : Str -> Dy)) (fun r => c_toY r) (hp ▸ (x_ixL (E.eb.get (i := 1) rfl) (eb_int (K := K)))).own) rfl ef_nil))) (congrArg (Option.map Sum.inl) ht) fun v G H E rv => ?_
      have ev : EvB K (tC v) σ H (some t.1) := fun x hx H1 e Q q => by
        cases hx
        exact q v H1 Gx.rfl (Rp.mono (E.gH.trans e) rv)
      exact eb_and (x_eqY ev (x_conv (f := (ToY.to : Tl Str -> Dy)) (fun r => c_toY r) (x_tup (l_cons (eb_str (K := K)) (l_nil (K := K)))))) (eb_call (em2 (x_ixL (E.eb.getO (d := oLs oFolk) (i := 3) rfl : EvB (A := List FolkS) K (tVar 3) _ _ _) (eb_int (K := K))) (x_ixL (E.eb.getO (d := oLs (oS (List Str))) (i := 4) rfl : EvB (A := List (Ds (List Str))) K (tVar 4) _ _ _) (eb_int (K := K))))) r_fn hm H Gx.rfl Q fun w H' e r => q w H' ((g0.trans E.gx).trans e) r
end Law

set_option Elab.async false
set_option linter.all false
set_option maxRecDepth 100000
namespace Law
open PySem PySem.Spec PyProof.Rows L2 Pu
open Pu.Rp (rp)
theorem comp_f {I : Type} {c : I -> Bool} {xs : List I} (h : xs.length ≤ 90000) : oComp (fun x => some (c x)) (fun x => some x) (some xs) = some (xs.filter c) := by
  unfold oComp lim
  rw [Option.bind_some, if_pos (by omega), Option.bind_some]
  exact comp_filter
theorem nd_len : forall {l U : List Str}, l.Nodup -> (forall x, x ∈ l -> x ∈ U) -> l.length ≤ U.length
  | [], U, _, _ => Nat.zero_le _
  | x :: xs, U, h, hs => by
    have hx := hs x List.mem_cons_self
    have hn := List.nodup_cons.mp h
    have ih := nd_len (l := xs) (U := U.erase x) hn.2 fun y hy => (List.mem_erase_of_ne (fun e => by subst e; exact hn.1 hy)).mpr (hs y (List.mem_cons_of_mem _ hy))
    rw [List.length_erase_of_mem hx] at ih
    have : 0 < U.length := List.length_pos_of_mem hx
    simp only [List.length_cons]
    omega
/-! who is reached -/
def suc (rows : Rows) (w : Str) : List Str := (sget rows w).getD []
inductive Rch (rows : Rows) : Str -> Str -> Prop
  | rfl (a : Str) : Rch rows a a
  | step {a b c : Str} : b ∈ suc rows a -> Rch rows b c -> Rch rows a c
theorem Rch.trans {rows : Rows} {a b c : Str} (h : Rch rows a b) : Rch rows b c -> Rch rows a c := by
  induction h with
  | rfl a => exact fun z => z
  | step h1 _ ih => exact fun z => .step h1 (ih z)
theorem Rch.one {rows : Rows} {a b : Str} (h : b ∈ suc rows a) : Rch rows a b := .step h (.rfl _)
theorem Rch.snoc {rows : Rows} {a b c : Str} (h : Rch rows a b) (e : c ∈ suc rows b) : Rch rows a c := h.trans (.one e)
theorem Rch.closed {rows : Rows} {a b : Str} {l : List Str} (h : Rch rows a b) (hc : forall x, x ∈ l -> forall y, y ∈ suc rows x -> y ∈ l) : a ∈ l -> b ∈ l := by
  induction h with
  | rfl a => exact id
  | step h1 _ ih => exact fun z => ih (hc _ z _ h1)
structure Ok (rows : Rows) (U : List Str) : Prop where
  cl : forall a, a ∈ U -> forall b, b ∈ suc rows a -> b ∈ U
  nd : forall a, (suc rows a).Nodup
  len : U.length ≤ 100
theorem get2_suc (rows : Rows) {k : Option Str} {x : Str} (h : k = some x) : o3 fGet2 (some (⟨rows⟩ : Ds (List Str))) k (o1 szOk (some ([] : List Str))) = some (suc rows x) := by rw [h]; rfl
theorem reached_w {rows : Rows} {U : List Str} (ok : Ok rows U) {w : Str} : forall (n : Nat) (found : List Str) (a : Nat), U.length < n + a -> a ≤ found.length -> found.Nodup -> (forall x, x ∈ found -> x ∈ U) -> w ∈ found -> (forall x, x ∈ found -> Rch rows w x) ->
    (forall (i : Nat) x, i < a -> found[i]? = some x -> forall y, y ∈ suc rows x -> y ∈ found) -> exists l k, whileO (m_law_reached_c1 ⟨rows⟩) (m_law_reached_l1 ⟨rows⟩) n (found, (a : Int)) = some (l, k) ∧ l.Nodup ∧ (forall x, x ∈ l ↔ Rch rows w x)
  | 0, found, a, h1, h2, h3, h4, _, _, _ => by
    have := nd_len h3 h4
    omega
  | n + 1, found, a, h1, h2, h3, h4, h5, h6, h7 => by
    have hl := nd_len h3 h4
    have hl2 := ok.len
    unfold whileO
    have ec : m_law_reached_c1 ⟨rows⟩ (found, (a : Int)) = some (decide ((a : Int) < (found.length : Int))) := rfl
    rw [ec, Option.bind_some]
    by_cases hlt : a < found.length
    · rw [if_pos (by simpa using hlt)]
      obtain ⟨x, e1, e2, e3⟩ := ix_nat (s := found) (i := (a : Int)) (by omega) (by omega)
      have e3' : found[a]? = some x := by simpa using e3
      have hs : (suc rows x).length ≤ U.length := nd_len (ok.nd x) (ok.cl x (h4 x e2))
      have el : m_law_reached_l1 ⟨rows⟩ (found, (a : Int)) = some (found ++ (suc rows x).filter (fun y => !decide (y ∈ found)), (a : Int) + 1) := by
        unfold m_law_reached_l1
        have hf := List.length_filter_le (fun y => !decide (y ∈ found)) (suc rows x)
        rw [get2_suc rows (x := x) (show o2 ix (some found) (some (a : Int)) = some x from e1)]
        rw [show (fun (y : Str) => (o2 fNinL (some y) (some (found, (a : Int)).1))) = fun y => some (!decide (y ∈ found)) from rfl, comp_f (by omega)]
        rw [show o2 fCat (some (found, (a : Int)).1) (some ((suc rows x).filter (fun y => !decide (y ∈ found)))) = szOk (found ++ (suc rows x).filter (fun y => !decide (y ∈ found))) from rfl]
        unfold szOk
        rw [if_pos (by rw [List.length_append]; omega)]
        rfl
      rw [el, Option.bind_some]
      have hm : forall y, y ∈ found ++ (suc rows x).filter (fun y => !decide (y ∈ found)) ↔ y ∈ found ∨ y ∈ suc rows x := fun y => by
        rw [List.mem_append, List.mem_filter]
        by_cases hy : y ∈ found <;> simp [hy]
      have ea : (a : Int) + 1 = ((a + 1 : Nat) : Int) := by omega
      rw [ea]
      refine reached_w ok n _ (a + 1) (by omega) (by rw [List.length_append]; omega) ?_ (fun y hy => ?_) ((hm w).mpr (.inl h5)) (fun y hy => ?_) (fun i z hi hz y hy => ?_)
      · refine List.nodup_append.mpr ⟨h3, (ok.nd x).filter _, fun y hy z hz e => ?_⟩
        subst e
        have := (List.mem_filter.mp hz).2
        simp [hy] at this
      · rcases (hm y).mp hy with h | h
        · exact h4 y h
        · exact ok.cl x (h4 x e2) y h
      · rcases (hm y).mp hy with h | h
        · exact h6 y h
        · exact (h6 x e2).snoc h
      · rw [List.getElem?_append_left (by omega)] at hz
        refine (hm y).mpr ?_
        by_cases hia : i < a
        · exact .inl (h7 i z hia hz y hy)
        · have : i = a := by omega
          subst this
          rw [e3'] at hz
          cases hz
          exact .inr hy
    · rw [if_neg (by simpa using hlt)]
      refine ⟨found, _, rfl, h3, fun x => ⟨h6 x, fun h => h.closed (fun z hz y hy => ?_) h5⟩⟩
      obtain ⟨i, hi, e⟩ := List.getElem_of_mem hz
      exact h7 i z (by omega) (by rw [List.getElem?_eq_getElem hi, e]) y hy
theorem reached_1 {rows : Rows} {U : List Str} (ok : Ok rows U) {w : Str} (hw : w ∈ U) : exists l, m_law_reached ⟨rows⟩ w = some l ∧ l.Nodup ∧ (forall x, x ∈ l ↔ Rch rows w x) := by
  have hl := ok.len
  obtain ⟨l, k, e, h1, h2⟩ := reached_w (w := w) ok 400 [w] 0 (by omega) (by omega) (by simp) (fun x hx => by rw [List.mem_singleton.mp hx]; exact hw) (by simp) (fun x hx => by rw [List.mem_singleton.mp hx]; exact .rfl _) (fun i x hi => absurd hi (Nat.not_lt_zero _))
  refine ⟨l, ?_, h1, h2⟩
  unfold m_law_reached
  rw [show o1 szOk (o2 fCons (some w) (some ([] : List Str))) = some [w] from rfl, Option.bind_some, Option.bind_some]
  rw [show ((0 : Int)) = ((0 : Nat) : Int) from rfl, e]
  rfl
end Law

set_option Elab.async false
set_option linter.all false
set_option maxRecDepth 100000
namespace Law
open PySem PySem.Spec PyProof.Rows L2 Pu
open Pu.Rp (rp)
def sk (ks : List Str) : List (Str × Bool) := ks.map fun k => (k, true)
theorem sget_cons {B : Type} {p : Str × B} {d : List (Str × B)} {k : Str} : sget (p :: d) k = if p.1 = k then some p.2 else sget d k := by
  unfold sget
  rw [List.find?_cons]
  by_cases e : p.1 = k <;> simp [e]
theorem sget_sk (ks : List Str) (k : Str) : (sget (sk ks) k).isSome = decide (k ∈ ks) := by
  induction ks with
  | nil => rfl
  | cons x xs ih =>
    show (sget ((x, true) :: sk xs) k).isSome = _
    rw [sget_cons]
    by_cases e : x = k
    · simp [e]
    · rw [if_neg e, ih]
      have e' : ¬ k = x := fun z => e z.symm
      simp [e']
theorem sput_sk {ks : List Str} {k : Str} (h : ¬ k ∈ ks) : sput (sk ks) k true = sk (ks ++ [k]) := by
  unfold sput sk
  rw [if_neg, List.map_append]; rfl
  intro z
  obtain ⟨p, hp, e⟩ := List.any_eq_true.mp z
  obtain ⟨x, hx, rfl⟩ := List.mem_map.mp hp
  exact h (by simpa using (of_decide_eq_true e) ▸ hx)
theorem fSput_sk {ks : List Str} {k : Str} (h : ¬ k ∈ ks) (hl : ks.length < 1000) : fSput (sk ks) k true = some (sk (ks ++ [k])) := by
  unfold fSput
  rw [if_pos (by unfold sk; rw [List.length_map]; omega), sput_sk h]
theorem fApp_1 {A : Type} {xs : List A} {y : A} (h : xs.length < 90000) : fApp xs y = some (xs ++ [y]) := if_pos (by omega)
theorem in_l2 {ks wt : List Str} {x : Str} (h1 : ks.length < 1000) (h2 : wt.length < 1000) : m_Folk_in_it_l2 (sk ks, wt) x = some (if x ∈ ks then (sk ks, wt) else (sk (ks ++ [x]), wt ++ [x])) := by
  unfold m_Folk_in_it_l2
  have e : o2 fNinD (some x) (some (⟨(sk ks, wt).1⟩ : Ds Bool)) = some (!decide (x ∈ ks)) := by
    show some (!(sget (sk ks) x).isSome) = _
    rw [sget_sk]
  rw [e, Option.bind_some]
  by_cases hx : x ∈ ks
  · rw [if_neg (by simp [hx]), if_pos hx]
  · rw [if_pos (by simp [hx]), if_neg hx]
    show (fSput (sk ks) x true).bind _ = _
    rw [fSput_sk hx h1, Option.bind_some, Option.bind_some]
    show (fApp wt x).bind _ = _
    rw [fApp_1 (by omega)]
    rfl
theorem in_fold : forall {xs ks wt : List Str}, xs.Nodup -> ks.length + xs.length < 1000 -> wt.length + xs.length < 1000 ->
    foldO m_Folk_in_it_l2 (sk ks, wt) xs = some (sk (ks ++ xs.filter fun y => !decide (y ∈ ks)), wt ++ xs.filter fun y => !decide (y ∈ ks))
  | [], ks, wt, _, _, _ => by simp [foldO]
  | x :: xs, ks, wt, hn, h1, h2 => by
    have hn' := List.nodup_cons.mp hn
    simp only [List.length_cons] at h1 h2
    unfold foldO
    rw [in_l2 (by omega) (by omega), Option.bind_some]
    by_cases hx : x ∈ ks
    · rw [if_pos hx, in_fold hn'.2 (by omega) (by omega), List.filter_cons_of_neg (by simp [hx])]
    · rw [if_neg hx, in_fold hn'.2 (by rw [List.length_append]; simp only [List.length_cons, List.length_nil]; omega) (by rw [List.length_append]; simp only [List.length_cons, List.length_nil]; omega), List.filter_cons_of_pos (by simp [hx])]
      have ef : xs.filter (fun y => !decide (y ∈ ks ++ [x])) = xs.filter (fun y => !decide (y ∈ ks)) := List.filter_congr fun y hy => by
        have : ¬ y = x := fun e => hn'.1 (e ▸ hy)
        simp [this]
      rw [ef, List.append_assoc, List.append_assoc]
      rfl
theorem in_w {rows : Rows} {people : List Str} {U : List Str} (ok : Ok rows U) {w : Str} : forall (n : Nat) (ks wt : List Str), 2 * U.length + wt.length < n + 2 * ks.length -> ks.Nodup -> (forall x, x ∈ ks -> x ∈ U) -> (forall x, x ∈ wt -> x ∈ ks) -> wt.length ≤ ks.length -> w ∈ ks -> (forall x, x ∈ ks -> Rch rows w x) ->
    (forall x, x ∈ ks -> ¬ x ∈ wt -> forall y, y ∈ suc rows x -> y ∈ ks) -> exists l wt', whileO (m_Folk_in_it_c1 ⟨people, rows⟩) (m_Folk_in_it_l1 ⟨people, rows⟩) n (sk ks, wt) = some (sk l, wt') ∧ (forall x, x ∈ l ↔ Rch rows w x)
  | 0, ks, wt, h1, h2, h3, _, _, _, _, _ => by
    have := nd_len h2 h3
    omega
  | n + 1, ks, wt, h1, h2, h3, h4, h45, h5, h6, h7 => by
    have hl := nd_len h2 h3
    have hl2 := ok.len
    unfold whileO
    rw [show m_Folk_in_it_c1 ⟨people, rows⟩ (sk ks, wt) = some (!wt.isEmpty) from rfl, Option.bind_some]
    rcases snoc wt with rfl | ⟨s, x, rfl⟩
    · refine ⟨ks, [], rfl, fun x => ⟨h6 x, fun h => h.closed (fun z hz y hy => h7 z hz (by simp) y hy) h5⟩⟩
    · rw [if_pos (by simp)]
      have hx : x ∈ ks := h4 x (by simp)
      have hs : (suc rows x).length ≤ U.length := nd_len (ok.nd x) (ok.cl x (h3 x hx))
      have el : m_Folk_in_it_l1 ⟨people, rows⟩ (sk ks, s ++ [x]) = some (sk (ks ++ (suc rows x).filter fun y => !decide (y ∈ ks)), s ++ (suc rows x).filter fun y => !decide (y ∈ ks)) := by
        unfold m_Folk_in_it_l1
        rw [show fPop (sk ks, s ++ [x]).2 = some (x, s) from fPop_last s x, Option.bind_some]
        show ((o3 fGet2 (some (⟨rows⟩ : Ds (List Str))) (some x) _).bind _) = _
        rw [get2_suc rows rfl, Option.bind_some]
        rw [in_fold (ok.nd x) (by omega) (by simp only [List.length_append, List.length_cons, List.length_nil] at h45; show s.length + _ < 1000; omega)]
        rfl
      rw [el, Option.bind_some]
      have hf : ((suc rows x).filter fun y => !decide (y ∈ ks)).length ≤ U.length := Nat.le_trans (List.length_filter_le _ _) hs
      have hm : forall y, y ∈ ks ++ (suc rows x).filter (fun y => !decide (y ∈ ks)) ↔ y ∈ ks ∨ y ∈ suc rows x := fun y => by
        rw [List.mem_append, List.mem_filter]
        by_cases hy : y ∈ ks <;> simp [hy]
      have hnd : (ks ++ (suc rows x).filter (fun y => !decide (y ∈ ks))).Nodup := List.nodup_append.mpr ⟨h2, (ok.nd x).filter _, fun y hy z hz e => by
        subst e
        have := (List.mem_filter.mp hz).2
        simp [hy] at this⟩
      have hsub : forall y, y ∈ ks ++ (suc rows x).filter (fun y => !decide (y ∈ ks)) -> y ∈ U := fun y hy => by
        rcases (hm y).mp hy with h | h
        · exact h3 y h
        · exact ok.cl x (h3 x hx) y h
      have hl3 := nd_len hnd hsub
      simp only [List.length_append, List.length_cons, List.length_nil] at h1 h45 hl3
      refine in_w ok n _ _ (by simp only [List.length_append]; omega) hnd hsub (fun y hy => ?_) ?_ ((hm w).mpr (.inl h5)) (fun y hy => ?_) (fun z hz hzw y hy => ?_)
      · rcases List.mem_append.mp hy with h | h
        · exact (hm y).mpr (.inl (h4 y (by simp [h])))
        · exact List.mem_append_right _ h
      · simp only [List.length_append]; omega
      · rcases (hm y).mp hy with h | h
        · exact h6 y h
        · exact (h6 x hx).snoc h
      · rcases List.mem_append.mp hz with h | h
        · by_cases e : z = x
          · subst e; exact (hm y).mpr (.inr hy)
          · refine (hm y).mpr (.inl (h7 z h (fun hh => hzw ?_) y hy))
            rcases List.mem_append.mp hh with h' | h'
            · exact List.mem_append_left _ h'
            · exact absurd (List.mem_singleton.mp h') e
        · exact absurd (List.mem_append_right _ h) hzw
theorem need_1 {people : List Str} {rows : Rows} {w : Str} (h : (sget rows w).isSome = true ∨ w ∈ people) : m_Folk_need_word ⟨people, rows⟩ (.str w) = some (.inl ()) := by
  have e : m_Folk_has_word ⟨people, rows⟩ (.str w) = some true := by
    show oOr (some (sget rows w).isSome) (some (decide (w ∈ people))) = some true
    unfold oOr
    rw [Option.bind_some]
    rcases h with h | h
    · rw [h]; rfl
    · cases (sget rows w).isSome <;> simp [h]
  unfold m_Folk_need_word
  rw [show o2 m_Folk_has_word (some ⟨people, rows⟩) (some (.str w)) = some true from e]
  rfl
theorem in_1 {people : List Str} {rows : Rows} {U : List Str} (ok : Ok rows U) {w : Str} (hw : w ∈ U) (h : (sget rows w).isSome = true ∨ w ∈ people) (hp : people.length ≤ 100) : exists l : List Str, m_Folk_in_it ⟨people, rows⟩ (.str w) = some (.inl (people.filter fun y => decide (y ∈ l))) ∧ (forall x, x ∈ l ↔ Rch rows w x) := by
  have hl := ok.len
  obtain ⟨l, wt', e, hr⟩ := in_w (people := people) ok (w := w) 400 [w] [w] (by simp only [List.length_cons, List.length_nil]; omega) (by simp) (fun x hx => by rw [List.mem_singleton.mp hx]; exact hw) (fun x hx => hx) (Nat.le_refl _) (by simp) (fun x hx => by rw [List.mem_singleton.mp hx]; exact .rfl _) (fun x hx hx' => absurd hx hx')
  refine ⟨l, ?_, hr⟩
  unfold m_Folk_in_it
  rw [show o2 m_Folk_need_word (some ⟨people, rows⟩) (some (.str w)) = some (.inl ()) from need_1 h, Option.bind_some]
  show (whileO (m_Folk_in_it_c1 ⟨people, rows⟩) (m_Folk_in_it_l1 ⟨people, rows⟩) 400 (sk [w], [w])).bind _ = _
  rw [e, Option.bind_some]
  have ec : (fun (y45 : Str) => (o2 fInD (some y45) (some (⟨(sk l, wt').1⟩ : (Ds Bool))))) = fun y => some (decide (y ∈ l)) := by
    funext y
    show some (sget (sk l) y).isSome = _
    rw [sget_sk]
  rw [ec]
  show (oComp _ _ (some people)).bind _ = _
  rw [comp_f (by omega)]
  rfl
end Law

set_option Elab.async false
set_option linter.all false
set_option maxRecDepth 100000
namespace Law
open PySem PySem.Spec PyProof.Rows L2 Pu
open Pu.Rp (rp)
abbrev keys (rows : Rows) : List Str := rows.map (·.1)
theorem sget_mem {rows : Rows} (hk : (keys rows).Nodup) : forall {r : Str × List Str}, r ∈ rows -> sget rows r.1 = some r.2 := by
  induction rows with
  | nil => intro r h; cases h
  | cons p ps ih =>
    intro r h
    have hn := List.nodup_cons.mp hk
    rw [sget_cons]
    rcases List.mem_cons.mp h with rfl | h
    · rw [if_pos rfl]
    · have hne : ¬ p.1 = r.1 := fun e => hn.1 (by show p.1 ∈ ps.map (·.1); rw [e]; exact List.mem_map_of_mem h)
      rw [if_neg hne, ih hn.2 h]
theorem sget_is {rows : Rows} {k : Str} {v : List Str} (h : sget rows k = some v) : (k, v) ∈ rows := by
  induction rows with
  | nil => cases h
  | cons p ps ih =>
    rw [sget_cons] at h
    by_cases e : p.1 = k
    · rw [if_pos e] at h
      cases h
      subst e
      exact List.mem_cons_self
    · rw [if_neg e] at h
      exact List.mem_cons_of_mem _ (ih h)
theorem sget_key {rows : Rows} {k : Str} : (sget rows k).isSome = decide (k ∈ keys rows) := by
  induction rows with
  | nil => rfl
  | cons p ps ih =>
    rw [sget_cons]
    by_cases e : p.1 = k
    · simp [e]
    · have e' : ¬ k = p.1 := fun z => e z.symm
      rw [if_neg e, ih]
      simp [e']
theorem suc_mem {rows : Rows} (hk : (keys rows).Nodup) {r : Str × List Str} (h : r ∈ rows) : suc rows r.1 = r.2 := by
  unfold suc
  rw [sget_mem hk h]; rfl
theorem suc_row {rows : Rows} {g m : Str} (h : m ∈ suc rows g) : (g, suc rows g) ∈ rows := by
  unfold suc at h ⊢
  cases e : sget rows g with
  | none => rw [e] at h; cases h
  | some v => exact sget_is e
/-! groups around -/
theorem up_l2 {inner : Str} {ks wt : List Str} {x : Str × List Str} (h1 : ks.length < 1000) (h2 : wt.length < 1000) : m_Folk_groups_of_l2 inner (sk ks, wt) x = some (if inner ∈ x.2 ∧ ¬ x.1 ∈ ks then (sk (ks ++ [x.1]), wt ++ [x.1]) else (sk ks, wt)) := by
  unfold m_Folk_groups_of_l2
  have e : oAnd (o2 fInL (some inner) (some x.2)) (o2 fNinD (some x.1) (some (⟨(sk ks, wt).1⟩ : Ds Bool))) = some (decide (inner ∈ x.2 ∧ ¬ x.1 ∈ ks)) := by
    show oAnd (some (decide (inner ∈ x.2))) (some (!(sget (sk ks) x.1).isSome)) = _
    rw [sget_sk]
    unfold oAnd
    rw [Option.bind_some]
    by_cases h : inner ∈ x.2 <;> simp [h]
  rw [e, Option.bind_some]
  by_cases hx : inner ∈ x.2 ∧ ¬ x.1 ∈ ks
  · rw [if_pos (by simpa using hx), if_pos hx]
    show (fSput (sk ks) x.1 true).bind _ = _
    rw [fSput_sk hx.2 h1, Option.bind_some, Option.bind_some]
    show (fApp wt x.1).bind _ = _
    rw [fApp_1 (by omega)]
    rfl
  · rw [if_neg (by simpa using hx), if_neg hx]
def nw (inner : Str) (ks : List Str) (rows : Rows) : List Str := (rows.filter fun r => decide (inner ∈ r.2 ∧ ¬ r.1 ∈ ks)).map (·.1)
theorem up_fold {inner : Str} : forall {rows : Rows} {ks wt : List Str}, (keys rows).Nodup -> ks.length + rows.length < 1000 -> wt.length + rows.length < 1000 ->
    foldO (m_Folk_groups_of_l2 inner) (sk ks, wt) rows = some (sk (ks ++ nw inner ks rows), wt ++ nw inner ks rows)
  | [], ks, wt, _, _, _ => by simp [foldO, nw]
  | x :: xs, ks, wt, hn, h1, h2 => by
    have hn' := List.nodup_cons.mp hn
    simp only [List.length_cons] at h1 h2
    unfold foldO
    rw [up_l2 (by omega) (by omega), Option.bind_some]
    by_cases hx : inner ∈ x.2 ∧ ¬ x.1 ∈ ks
    · rw [if_pos hx, up_fold hn'.2 (by rw [List.length_append]; simp only [List.length_cons, List.length_nil]; omega) (by rw [List.length_append]; simp only [List.length_cons, List.length_nil]; omega)]
      have ef : nw inner ks (x :: xs) = x.1 :: nw inner (ks ++ [x.1]) xs := by
        unfold nw
        rw [List.filter_cons_of_pos (by simpa using hx), List.map_cons]
        congr 2
        refine List.filter_congr fun y hy => ?_
        have : ¬ y.1 = x.1 := fun e => hn'.1 (by show x.1 ∈ xs.map (·.1); rw [← e]; exact List.mem_map_of_mem hy)
        simp [this]
      rw [ef, List.append_assoc, List.append_assoc]
      rfl
    · rw [if_neg hx, up_fold hn'.2 (by omega) (by omega)]
      have ef : nw inner ks (x :: xs) = nw inner ks xs := by
        unfold nw
        rw [List.filter_cons_of_neg (by simpa using hx)]
      rw [ef]
theorem nw_mem {inner : Str} {ks : List Str} {rows : Rows} (hk : (keys rows).Nodup) {g : Str} : g ∈ nw inner ks rows ↔ inner ∈ suc rows g ∧ ¬ g ∈ ks := by
  unfold nw
  rw [List.mem_map]
  constructor
  · rintro ⟨r, hr, rfl⟩
    obtain ⟨h1, h2⟩ := List.mem_filter.mp hr
    have h3 : inner ∈ r.2 ∧ ¬ r.1 ∈ ks := by simpa using h2
    rw [suc_mem hk h1]
    exact h3
  · rintro ⟨h1, h2⟩
    exact ⟨(g, suc rows g), List.mem_filter.mpr ⟨suc_row h1, by simpa using ⟨h1, h2⟩⟩, rfl⟩
theorem nw_nd {inner : Str} {ks : List Str} {rows : Rows} (hk : (keys rows).Nodup) : (nw inner ks rows).Nodup := (List.Sublist.map _ List.filter_sublist).nodup hk
theorem up_w {rows : Rows} {people : List Str} (hk : (keys rows).Nodup) (hr : rows.length ≤ 100) {w : Str} : forall (n : Nat) (ks wt : List Str), 2 * rows.length + wt.length < n + 2 * ks.length -> ks.Nodup -> (forall x, x ∈ ks -> x ∈ keys rows) -> (forall x, x ∈ wt -> x = w ∨ x ∈ ks) -> wt.length ≤ ks.length + 1 -> (forall x, x ∈ ks -> exists m, m ∈ suc rows x ∧ Rch rows m w) ->
    (forall x, (x = w ∨ x ∈ ks) -> ¬ x ∈ wt -> forall g, x ∈ suc rows g -> g ∈ ks) -> exists l wt', whileO (m_Folk_groups_of_c1 ⟨people, rows⟩) (m_Folk_groups_of_l1 ⟨people, rows⟩) n (sk ks, wt) = some (sk l, wt') ∧ l.Nodup ∧ (forall x, x ∈ l -> x ∈ keys rows) ∧ (forall x, x ∈ l ↔ exists m, m ∈ suc rows x ∧ Rch rows m w)
  | 0, ks, wt, h1, h2, h3, _, _, _, _ => by
    have := nd_len h2 h3
    rw [List.length_map] at this
    omega
  | n + 1, ks, wt, h1, h2, h3, h4, h45, h6, h7 => by
    have hl := nd_len h2 h3
    rw [List.length_map] at hl
    unfold whileO
    rw [show m_Folk_groups_of_c1 ⟨people, rows⟩ (sk ks, wt) = some (!wt.isEmpty) from rfl, Option.bind_some]
    rcases snoc wt with rfl | ⟨s, x, rfl⟩
    · have up : forall {m b : Str}, Rch rows m b -> b = w -> m = w ∨ m ∈ ks := by
        intro m b h
        induction h with
        | rfl a => exact fun e => .inl e
        | step h1 _ ih => exact fun e => .inr (h7 _ (ih e) (by simp) _ h1)
      refine ⟨ks, [], rfl, h2, h3, fun x => ⟨h6 x, fun ⟨m, hm, hr⟩ => h7 m (up hr rfl) (by simp) x hm⟩⟩
    · rw [if_pos (by simp)]
      have hx := h4 x (by simp)
      have hxr : Rch rows x w := by
        rcases hx with e | e
        · rw [e]; exact .rfl _
        · obtain ⟨m, h8, h9⟩ := h6 x e
          exact .step h8 h9
      simp only [List.length_append, List.length_cons, List.length_nil] at h1 h45
      have el : m_Folk_groups_of_l1 ⟨people, rows⟩ (sk ks, s ++ [x]) = some (sk (ks ++ nw x ks rows), s ++ nw x ks rows) := by
        unfold m_Folk_groups_of_l1
        rw [show fPop (sk ks, s ++ [x]).2 = some (x, s) from fPop_last s x, Option.bind_some]
        show (foldO (m_Folk_groups_of_l2 x) (sk ks, s) rows).bind _ = _
        rw [up_fold hk (by omega) (by omega)]
        rfl
      rw [el, Option.bind_some]
      have hm : forall y, y ∈ ks ++ nw x ks rows ↔ y ∈ ks ∨ x ∈ suc rows y := fun y => by
        rw [List.mem_append, nw_mem hk]
        by_cases hy : y ∈ ks <;> simp [hy]
      have hnd : (ks ++ nw x ks rows).Nodup := List.nodup_append.mpr ⟨h2, nw_nd hk, fun y hy z hz e => by
        subst e
        exact ((nw_mem hk).mp hz).2 hy⟩
      have hsub : forall y, y ∈ ks ++ nw x ks rows -> y ∈ keys rows := fun y hy => by
        rcases (hm y).mp hy with h | h
        · exact h3 y h
        · exact List.mem_map_of_mem (suc_row h)
      have hl3 := nd_len hnd hsub
      rw [List.length_map] at hl3
      simp only [List.length_append] at hl3
      refine up_w hk hr n _ _ (by simp only [List.length_append]; omega) hnd hsub (fun y hy => ?_) (by simp only [List.length_append]; omega) (fun y hy => ?_) (fun z hz hzw g hg => ?_)
      · rcases List.mem_append.mp hy with h | h
        · rcases h4 y (by simp [h]) with e | e
          · exact .inl e
          · exact .inr (List.mem_append_left _ e)
        · exact .inr (List.mem_append_right _ h)
      · rcases (hm y).mp hy with h | h
        · exact h6 y h
        · exact ⟨x, h, hxr⟩
      · have hz' : z = w ∨ z ∈ ks ∨ z ∈ nw x ks rows := by
          rcases hz with e | e
          · exact .inl e
          · rcases List.mem_append.mp e with e | e
            · exact .inr (.inl e)
            · exact .inr (.inr e)
        by_cases e : z = x
        · subst e; exact (hm g).mpr (.inr hg)
        · have hzs : ¬ z ∈ s ++ [x] := fun hh => by
            rcases List.mem_append.mp hh with h' | h'
            · exact hzw (List.mem_append_left _ h')
            · exact e (List.mem_singleton.mp h')
          rcases hz' with e1 | e1 | e1
          · exact (hm g).mpr (.inl (h7 z (.inl e1) hzs g hg))
          · exact (hm g).mpr (.inl (h7 z (.inr e1) hzs g hg))
          · exact absurd (List.mem_append_right _ e1) hzw
theorem up_1 {people : List Str} {rows : Rows} (hk : (keys rows).Nodup) (hr : rows.length < 60) {w : Str} (h : (sget rows w).isSome = true ∨ w ∈ people) : exists l : List Str, m_Folk_groups_of ⟨people, rows⟩ (.str w) = some (.inl (ssort l)) ∧ l.Nodup ∧ (forall x, x ∈ l ↔ exists m, m ∈ suc rows x ∧ Rch rows m w) := by
  obtain ⟨l, wt', e, h1, h2, h3⟩ := up_w (people := people) hk (by omega) (w := w) 400 [] [w] (by simp only [List.length_cons, List.length_nil]; omega) (by simp) (by simp) (fun x hx => .inl (List.mem_singleton.mp hx)) (Nat.le_refl _) (by simp) (fun x hx hx' => by
    rcases hx with rfl | hx
    · exact absurd (List.mem_singleton.mpr rfl) hx'
    · cases hx)
  have hl := nd_len h1 h2
  rw [List.length_map] at hl
  refine ⟨l, ?_, h1, h3⟩
  unfold m_Folk_groups_of
  rw [show o2 m_Folk_need_word (some ⟨people, rows⟩) (some (.str w)) = some (.inl ()) from need_1 h, Option.bind_some]
  show (whileO (m_Folk_groups_of_c1 ⟨people, rows⟩) (m_Folk_groups_of_l1 ⟨people, rows⟩) 400 (sk [], [w])).bind _ = _
  rw [e, Option.bind_some]
  have ek : (sk l).map (·.1) = l := by unfold sk; rw [List.map_map]; simp [Function.comp_def]
  show (fSortS ((sk l).map (·.1))).bind _ = _
  unfold fSortS
  rw [ek, if_pos (by omega)]
  rfl
end Law

set_option Elab.async false
set_option linter.all false
set_option maxRecDepth 100000
namespace Law
open PySem PySem.Spec PyProof.Rows L2 Pu
open Pu.Rp (rp)
structure Wd (people groups : List Str) (rows : Rows) : Prop where
  hk : (keys rows).Nodup
  kg : forall g, g ∈ keys rows -> g ∈ groups
  dj : forall p, p ∈ people -> ¬ p ∈ groups
  pn : people ≠ []
  gn : groups ≠ []
  pl : people.length ≤ 20
  gl : groups.length ≤ 20
  nd : forall a, (suc rows a).Nodup
  cl : forall g m, m ∈ suc rows g -> m ∈ people ∨ m ∈ keys rows
  ac : forall g m, m ∈ suc rows g -> ¬ Rch rows m g
  so : forall x, x ∈ people ∨ x ∈ groups -> strOk x = true
  nm : forall g, g ∈ groups -> m_is_name (.str g) = some true
  pd : people.Nodup
section
variable {people groups : List Str} {rows : Rows}
theorem Wd.rl (w : Wd people groups rows) : rows.length ≤ 20 := by
  have := nd_len w.hk w.kg
  rw [List.length_map] at this
  have := w.gl
  omega
theorem Wd.ok (w : Wd people groups rows) : Ok rows (people ++ keys rows) := by
  refine ⟨fun a _ b hb => ?_, w.nd, ?_⟩
  · rcases w.cl a b hb with h | h
    · exact List.mem_append_left _ h
    · exact List.mem_append_right _ h
  · have := w.rl
    have := w.pl
    rw [List.length_append, List.length_map]
    omega
theorem comp_g {I : Type} {c : I -> Option Bool} {d : I -> Bool} : forall {xs : List I}, (forall x, x ∈ xs -> c x = some (d x)) -> comp c (fun x => some x) xs = some (xs.filter d)
  | [], _ => rfl
  | x :: xs, h => by
    have ih := comp_g (xs := xs) fun y hy => h y (List.mem_cons_of_mem _ hy)
    unfold comp
    rw [h x List.mem_cons_self, ih]
    cases hd : d x <;> simp [hd]
theorem comp_o {I : Type} {c : I -> Option Bool} {d : I -> Bool} {xs : List I} (hl : xs.length ≤ 90000) (h : forall x, x ∈ xs -> c x = some (d x)) : oComp c (fun x => some x) (some xs) = some (xs.filter d) := by
  unfold oComp lim
  rw [Option.bind_some, if_pos (by omega), Option.bind_some]
  exact comp_g h
theorem sortD_1 (w : Wd people groups rows) : o1 fSortD (some (⟨rows⟩ : Ds (List Str))) = some (ssort (keys rows)) := by
  have := w.rl
  show fSortD _ = _
  unfold fSortD
  rw [if_pos (by show rows.length < 64; omega)]
theorem words_1 (w : Wd people groups rows) : o2 fCat (some people) (o1 fSortD (some (⟨rows⟩ : Ds (List Str)))) = some (people ++ ssort (keys rows)) := by
  rw [sortD_1 w]
  show szOk _ = _
  have := w.rl
  have := w.pl
  unfold szOk
  rw [if_pos (by rw [List.length_append, ssort_len, List.length_map]; omega)]
theorem ix_mod {xs : List Str} (h : xs ≠ []) (n : Int) : exists x, o2 ix (some xs) (o2 fMod (some n) (o1 fLen (some xs))) = some x ∧ x ∈ xs := by
  have hl : 0 < xs.length := List.length_pos_iff.mpr h
  have hp : (0 : Int) < (xs.length : Int) := by omega
  have e : o2 fMod (some n) (o1 fLen (some xs)) = some (n % (xs.length : Int)) := by
    show fMod n (xs.length : Int) = _
    exact fMod_1 hp
  obtain ⟨x, e1, e2, _⟩ := ix_nat (s := xs) (i := n % (xs.length : Int)) (Int.emod_nonneg _ (by omega)) (Int.emod_lt_of_pos _ hp)
  exact ⟨x, by rw [e]; exact e1, e2⟩
theorem ne_1 {x y : Str} (hx : strOk x = true) (hy : strOk y = true) : o2 fNeP (some x) (some y) = some (!decide (x = y)) := by
  show fNeP x y = _
  unfold fNeP
  exact if_pos ⟨hx, hy⟩
theorem nel_1 {x y : List Str} (hx : forall z, z ∈ x -> strOk z = true) (hy : forall z, z ∈ y -> strOk z = true) : o2 fNeP (some x) (some y) = some (!decide (x = y)) := by
  show fNeP x y = _
  unfold fNeP
  exact if_pos ⟨List.all_eq_true.mpr hx, List.all_eq_true.mpr hy⟩
theorem Wd.has (w : Wd people groups rows) {x : Str} (h : x ∈ people ++ keys rows) : (sget rows x).isSome = true ∨ x ∈ people := by
  rcases List.mem_append.mp h with h | h
  · exact .inr h
  · exact .inl (by rw [sget_key]; simpa using h)
theorem Wd.sok (w : Wd people groups rows) {x : Str} (h : x ∈ people ++ keys rows) : strOk x = true := by
  rcases List.mem_append.mp h with h | h
  · exact w.so x (.inl h)
  · exact w.so x (.inr (w.kg x h))
theorem Wd.sucU (w : Wd people groups rows) {g m : Str} (h : m ∈ suc rows g) : m ∈ people ++ keys rows := by
  rcases w.cl g m h with h | h
  · exact List.mem_append_left _ h
  · exact List.mem_append_right _ h
end
end Law

set_option Elab.async false
set_option linter.all false
set_option maxRecDepth 100000
namespace Law
open PySem PySem.Spec PyProof.Rows L2 Pu
open Pu.Rp (rp)
section
variable {people groups : List Str} {rows rows' : Rows} {g m : Str} {ys : List Str}
structure Upd (rows rows' : Rows) (g : Str) (ys : List Str) : Prop where
  hk : (keys rows').Nodup
  ke : forall k, k ∈ keys rows' ↔ k ∈ keys rows ∨ k = g
  su : forall a, suc rows' a = if a = g then ys else suc rows a
theorem row_split (hk : (keys rows).Nodup) (hg : g ∈ keys rows) : exists r1 r2, rows = r1 ++ (g, suc rows g) :: r2 ∧ (forall r, r ∈ r1 -> r.1 ≠ g) ∧ (forall r, r ∈ r2 -> r.1 ≠ g) := by
  have h : (sget rows g).isSome = true := by rw [sget_key]; simpa using hg
  obtain ⟨v, hv⟩ := Option.isSome_iff_exists.mp h
  have es : suc rows g = v := by unfold suc; rw [hv]; rfl
  rw [es]
  obtain ⟨r1, r2, e⟩ := List.append_of_mem (sget_is hv)
  subst e
  unfold keys at hk
  rw [List.map_append, List.map_cons] at hk
  obtain ⟨_, h2, h3⟩ := List.nodup_append.mp hk
  refine ⟨r1, r2, rfl, fun r hr e => h3 r.1 (List.mem_map_of_mem hr) g List.mem_cons_self e, fun r hr e => (List.nodup_cons.mp h2).1 ?_⟩
  show g ∈ r2.map (·.1)
  rw [← e]
  exact List.mem_map_of_mem hr
theorem sget_app {r1 r2 : Rows} {a : Str} : sget (r1 ++ r2) a = (sget r1 a).or (sget r2 a) := by
  induction r1 with
  | nil => rfl
  | cons p ps ih =>
    show sget (p :: (ps ++ r2)) a = _
    rw [sget_cons, sget_cons]
    by_cases e : p.1 = a
    · rw [if_pos e, if_pos e]; rfl
    · rw [if_neg e, if_neg e, ih]
theorem sget_none {r1 : Rows} (h : forall r, r ∈ r1 -> r.1 ≠ g) : sget r1 g = none := by
  cases e : sget r1 g with
  | none => rfl
  | some v => exact absurd rfl (h _ (sget_is e))
theorem upd_at (hk : (keys rows).Nodup) {r1 r2 : Rows} {xs : List Str} (e : rows = r1 ++ (g, xs) :: r2) (h1 : forall r, r ∈ r1 -> r.1 ≠ g) : Upd rows (r1 ++ (g, ys) :: r2) g ys := by
  have ek : keys (r1 ++ (g, ys) :: r2) = keys rows := by rw [e]; unfold keys; rw [List.map_append, List.map_append]; rfl
  refine ⟨by rw [ek]; exact hk, fun k => ?_, fun a => ?_⟩
  · rw [ek]
    refine ⟨.inl, fun h => ?_⟩
    rcases h with h | h
    · exact h
    · rw [h, e]; unfold keys; simp
  · unfold suc
    rw [e, sget_app, sget_app, sget_cons, sget_cons]
    by_cases ea : a = g
    · subst ea
      rw [if_pos rfl, if_pos rfl, sget_none h1]; rfl
    · have : ¬ g = a := fun z => ea z.symm
      rw [if_neg this, if_neg ea, if_neg this]
theorem nokey (h : ¬ g ∈ keys rows) : forall r, r ∈ rows -> r.1 ≠ g := fun r hr e => h (by rw [← e]; exact List.mem_map_of_mem hr)
theorem upd_new (hk : (keys rows).Nodup) (h : ¬ g ∈ keys rows) : Upd rows (rows ++ [(g, ys)]) g ys := by
  refine ⟨?_, fun k => ?_, fun a => ?_⟩
  · unfold keys
    rw [List.map_append]
    refine List.nodup_append.mpr ⟨hk, by simp, fun x hx y hy e => h ?_⟩
    have : y = g := by simpa using hy
    rw [← this, ← e]; exact hx
  · unfold keys
    rw [List.map_append, List.mem_append]
    simp
  · unfold suc
    rw [sget_app, sget_cons]
    by_cases ea : a = g
    · subst ea
      rw [sget_none (nokey h), if_pos rfl, if_pos rfl]; rfl
    · have : ¬ g = a := fun z => ea z.symm
      rw [if_neg this, if_neg ea]
      show ((sget rows a).or none).getD [] = _
      rw [Option.or_none]
theorem sput_at {r1 r2 : Rows} {xs x : List Str} (h1 : forall r, r ∈ r1 -> r.1 ≠ g) (h2 : forall r, r ∈ r2 -> r.1 ≠ g) : sput (r1 ++ (g, xs) :: r2) g x = r1 ++ (g, x) :: r2 := by
  have hm : forall {r : Rows}, (forall p, p ∈ r -> p.1 ≠ g) -> r.map (fun p => if p.1 = g then (p.1, x) else p) = r := by
    intro r h
    induction r with
    | nil => rfl
    | cons p ps ih => rw [List.map_cons, if_neg (h p List.mem_cons_self), ih fun q hq => h q (List.mem_cons_of_mem _ hq)]
  unfold sput
  rw [if_pos (by simp), List.map_append, List.map_cons, hm h1, hm h2, if_pos rfl]
theorem sput_new {x : List Str} (h : ¬ g ∈ keys rows) : sput rows g x = rows ++ [(g, x)] := by
  unfold sput
  rw [if_neg]
  intro z
  obtain ⟨p, hp, e⟩ := List.any_eq_true.mp z
  exact h (by rw [← of_decide_eq_true e]; exact List.mem_map_of_mem hp)
theorem rem_filter : forall {xs : List Str}, xs.Nodup -> rem xs m = xs.filter fun y => !decide (y = m)
  | [], _ => rfl
  | x :: xs, h => by
    have hn := List.nodup_cons.mp h
    show (if x = m then xs else x :: rem xs m) = _
    by_cases e : x = m
    · subst e
      rw [if_pos rfl, List.filter_cons_of_neg (by simp)]
      refine (List.filter_eq_self.mpr fun y hy => ?_).symm
      have : ¬ y = x := fun z => hn.1 (z ▸ hy)
      simp [this]
    · rw [if_neg e, List.filter_cons_of_pos (by simp [e]), rem_filter hn.2]
theorem sputs (hk : (keys rows).Nodup) (hl : rows.length ≤ 100) (x : List Str) : fSput rows g x = some (sput rows g x) := if_pos (by omega)
/-- what is taken -/
theorem wd_take (w : Wd people groups rows) (hg : g ∈ keys rows) : exists rows', sput rows g ((suc rows g).filter fun y => !decide (y = m)) = rows' ∧ rdel rows g m = rows' ∧ Wd people groups rows' := by
  obtain ⟨r1, r2, e, h1, h2⟩ := row_split w.hk hg
  have nd := w.nd g
  generalize suc rows g = xs at e nd
  have u : Upd rows (r1 ++ (g, xs.filter fun y => !decide (y = m)) :: r2) g (xs.filter fun y => !decide (y = m)) := upd_at w.hk e h1
  have hx : suc rows g = xs := by
    unfold suc
    rw [e, sget_app, sget_none h1, sget_cons, if_pos rfl]; rfl
  refine ⟨r1 ++ (g, xs.filter fun y => !decide (y = m)) :: r2, by rw [e]; exact sput_at h1 h2, by rw [e, rdel_at h1, rem_filter nd], ?_⟩
  have sub : forall a b, b ∈ suc (r1 ++ (g, xs.filter fun y => !decide (y = m)) :: r2) a -> b ∈ suc rows a := fun a b hb => by
    rw [u.su] at hb
    by_cases ea : a = g
    · rw [if_pos ea] at hb
      rw [ea, hx]; exact (List.mem_filter.mp hb).1
    · rw [if_neg ea] at hb; exact hb
  have rch : forall {a b}, Rch (r1 ++ (g, xs.filter fun y => !decide (y = m)) :: r2) a b -> Rch rows a b := by
    intro a b h
    induction h with
    | rfl a => exact .rfl a
    | step h1 _ ih => exact .step (sub _ _ h1) ih
  have kk : forall k, k ∈ keys (r1 ++ (g, xs.filter fun y => !decide (y = m)) :: r2) ↔ k ∈ keys rows := fun k => (u.ke k).trans ⟨fun h => h.elim id fun z => z ▸ hg, .inl⟩
  exact ⟨u.hk, fun k h => w.kg k ((kk k).mp h), w.dj, w.pn, w.gn, w.pl, w.gl, fun a => by
    rw [u.su]
    by_cases ea : a = g
    · rw [if_pos ea]; exact nd.filter _
    · rw [if_neg ea]; exact w.nd a, fun a b h => (w.cl a b (sub a b h)).imp id (kk b).mpr, fun a b h hr => w.ac a b (sub a b h) (rch hr), w.so, w.nm, w.pd⟩
/-- what is put -/
theorem wd_put (w : Wd people groups rows) (hg : g ∈ groups) (hm : m ∈ people ++ keys rows) (hr : ¬ Rch rows m g) : exists rows', sput rows g (if m ∈ suc rows g then suc rows g else suc rows g ++ [m]) = rows' ∧ rput rows g m = rows' ∧ Wd people groups rows' := by
  have key : forall rows', Upd rows rows' g (if m ∈ suc rows g then suc rows g else suc rows g ++ [m]) -> Wd people groups rows' := by
    intro rows' u
    have sub : forall a b, b ∈ suc rows' a -> b ∈ suc rows a ∨ (a = g ∧ b = m) := fun a b hb => by
      rw [u.su] at hb
      by_cases ea : a = g
      · rw [if_pos ea] at hb
        subst ea
        by_cases em : m ∈ suc rows a
        · rw [if_pos em] at hb; exact .inl hb
        · rw [if_neg em] at hb
          rcases List.mem_append.mp hb with h | h
          · exact .inl h
          · exact .inr ⟨rfl, List.mem_singleton.mp h⟩
      · rw [if_neg ea] at hb; exact .inl hb
    have rch : forall {a b}, Rch rows' a b -> Rch rows a b ∨ (Rch rows a g ∧ Rch rows m b) := by
      intro a b h
      induction h with
      | rfl a => exact .inl (.rfl a)
      | step h1 _ ih =>
        rcases sub _ _ h1 with h1 | ⟨rfl, rfl⟩
        · rcases ih with ih | ⟨i1, i2⟩
          · exact .inl (.step h1 ih)
          · exact .inr ⟨.step h1 i1, i2⟩
        · rcases ih with ih | ⟨i1, _⟩
          · exact .inr ⟨.rfl _, ih⟩
          · exact absurd i1 hr
    refine ⟨u.hk, fun k h => ?_, w.dj, w.pn, w.gn, w.pl, w.gl, fun a => ?_, fun a b h => ?_, fun a b h hrr => ?_, w.so, w.nm, w.pd⟩
    · rcases (u.ke k).mp h with h | h
      · exact w.kg k h
      · rw [h]; exact hg
    · rw [u.su]
      by_cases ea : a = g
      · rw [if_pos ea]
        by_cases em : m ∈ suc rows g
        · rw [if_pos em]; exact w.nd g
        · rw [if_neg em]
          exact List.nodup_append.mpr ⟨w.nd g, by simp, fun x hx y hy e => em (by rw [← List.mem_singleton.mp hy, ← e]; exact hx)⟩
      · rw [if_neg ea]; exact w.nd a
    · rcases sub a b h with h | ⟨_, rfl⟩
      · exact (w.cl a b h).imp id fun z => (u.ke b).mpr (.inl z)
      · exact (List.mem_append.mp hm).imp id fun z => (u.ke b).mpr (.inl z)
    · rcases sub a b h with h | ⟨rfl, rfl⟩
      · rcases rch hrr with z | ⟨z1, z2⟩
        · exact w.ac a b h z
        · exact hr (z2.trans (.step h z1))
      · rcases rch hrr with z | ⟨z1, _⟩
        · exact hr z
        · exact hr z1
  by_cases hk : g ∈ keys rows
  · obtain ⟨r1, r2, e, h1, h2⟩ := row_split w.hk hk
    refine ⟨r1 ++ (g, if m ∈ suc rows g then suc rows g else suc rows g ++ [m]) :: r2, ?_, ?_, key _ (upd_at w.hk e h1)⟩
    · conv => lhs; arg 1; rw [e]
      exact sput_at h1 h2
    · conv => lhs; arg 1; rw [e]
      exact rput_at h1
  · have es : suc rows g = [] := by
      unfold suc
      rw [sget_none (nokey hk)]; rfl
    refine ⟨rows ++ [(g, if m ∈ suc rows g then suc rows g else suc rows g ++ [m])], sput_new hk, ?_, key _ (upd_new w.hk hk)⟩
    rw [rput_no (nokey hk), es]; rfl
end
end Law

set_option Elab.async false
set_option linter.all false
set_option maxRecDepth 100000
namespace Law
open PySem PySem.Spec PyProof.Rows L2 Pu
open Pu.Rp (rp)
section
variable {people groups : List Str} {rows rows' : Rows} {g m : Str} {ys : List Str}
theorem div_1 (n : Int) {k : Int} (h : 0 < k ∧ k < 1073741824) : o2 fDiv (some n) (some k) = some (n / k) := fDiv_1 h
theorem mod_1 (n : Int) {k : Int} (h : 0 < k) : o2 fMod (some n) (some k) = some (n % k) := fMod_1 h
theorem own_1 (w : Wd people groups rows) : o2 fCat (some (suc rows g)) (o2 fRep (o1 szOk (o2 fCons (some m) (some ([] : List Str)))) (o1 fIntB (o2 fNinL (some m) (some (suc rows g))))) = some (if m ∈ suc rows g then suc rows g else suc rows g ++ [m]) := by
  have := nd_len (w.nd g) (U := people ++ keys rows) fun z hz => w.sucU hz
  have hp := w.pl
  have hrl := w.rl
  rw [List.length_append, List.length_map] at this
  by_cases h : m ∈ suc rows g
  · rw [if_pos h, show o2 fNinL (some m) (some (suc rows g)) = some false from by show some (!decide (m ∈ suc rows g)) = _; simp [h]]
    show szOk (suc rows g ++ []) = _
    rw [List.append_nil]
    unfold szOk
    rw [if_pos (by omega)]
  · rw [if_neg h, show o2 fNinL (some m) (some (suc rows g)) = some true from by show some (!decide (m ∈ suc rows g)) = _; simp [h]]
    show szOk (suc rows g ++ [m]) = _
    unfold szOk
    rw [if_pos (by rw [List.length_append]; simp only [List.length_cons, List.length_nil]; omega)]
theorem getD_1 (h : (sget rows g).isSome = true) : o2 fGetD (some (⟨rows⟩ : Ds (List Str))) (some g) = some (suc rows g) := by
  obtain ⟨v, hv⟩ := Option.isSome_iff_exists.mp h
  show sget rows g = some (suc rows g)
  unfold suc
  rw [hv]; rfl
theorem key_some (h : g ∈ keys rows) : (sget rows g).isSome = true := by rw [sget_key]; simpa using h
end
end Law

set_option Elab.async false
set_option linter.all false
set_option maxRecDepth 100000
namespace Law
open PySem PySem.Spec PyProof.Rows L2 Pu
open Pu.Rp (rp)
theorem mul_1 (i j : Int) (h : -18446744073709551616 < i ∧ i < 18446744073709551616 ∨ -18446744073709551616 < j ∧ j < 18446744073709551616) : o2 fMul (some i) (some j) = some (i * j) := fMul_1 h
theorem mix_1 (c k : Int) : exists n, m_law_mixed c k = some n ∧ 0 ≤ n ∧ n < 1000003 := by
  have a1 : o2 fMul (some c) (some (48271 : Int)) = some (c * 48271) := mul_1 _ _ (.inr (by decide))
  have a2 : o2 fMul (some (7919 : Int)) (some k) = some (7919 * k) := mul_1 _ _ (.inl (by decide))
  unfold m_law_mixed
  rw [a1, a2]
  have a3 : o2 fMod (o2 fAdd (o2 fAdd (some (c * 48271)) (some (7919 * k))) (some (11 : Int))) (some (1000003 : Int)) = some ((c * 48271 + 7919 * k + 11) % 1000003) := mod_1 _ (by decide)
  rw [a3, Option.bind_some]
  have h1 := Int.emod_nonneg (c * 48271 + 7919 * k + 11) (b := 1000003) (by decide)
  have h2 := Int.emod_lt_of_pos (c * 48271 + 7919 * k + 11) (b := 1000003) (by decide)
  generalize (c * 48271 + 7919 * k + 11) % 1000003 = n at h1 h2
  have a4 : o2 fMul (some n) (some n) = some (n * n) := mul_1 _ _ (.inl (by omega))
  rw [a4, mod_1 _ (by decide)]
  have a5 : o2 fMul (some (n * n % 1000003)) (some n) = some (n * n % 1000003 * n) := mul_1 _ _ (.inr (by omega))
  rw [a5, mod_1 _ (by decide)]
  exact ⟨_, rfl, Int.emod_nonneg _ (by decide), Int.emod_lt_of_pos _ (by decide)⟩
end Law

set_option Elab.async false
set_option linter.all false
set_option maxRecDepth 100000
namespace Law
open PySem PySem.Spec PyProof.Rows L2 Pu
open Pu.Rp (rp)
def Lt (i : Nat) : Str := ⟨#[97 + i]⟩
def J (ws : List Nat) : Str := ⟨(ws.map (97 + ·)).toArray⟩
abbrev abc : Str := Str.ofString "abcdefghijklmnopqrstuvwxyz"
theorem ix_abc : forall n : Fin 26, fIxS abc ((n.val : Nat) : Int) = some (Lt n.val) := by decide +kernel
theorem six_abc : forall n : Fin 26, fSIndex abc (Lt n.val) = some ((n.val : Nat) : Int) := by decide +kernel
theorem ixs_1 {i : Int} (h0 : 0 ≤ i) (h1 : i < 26) : fIxS abc i = some (Lt i.toNat) := by
  have := ix_abc ⟨i.toNat, by omega⟩
  rw [show ((i.toNat : Nat) : Int) = i by omega] at this
  exact this
theorem J_inj {a b : List Nat} (h : J a = J b) : a = b := by
  unfold J at h
  have h1 : (a.map (97 + ·)).toArray = (b.map (97 + ·)).toArray := Str.mk.inj h
  have h2 : a.map (97 + ·) = b.map (97 + ·) := by simpa using h1
  exact (List.map_inj_right fun x y e => by omega).mp h2
theorem join_L : forall ws : List Nat, Txt.join (Str.ofString "") (ws.map Lt) = J ws := by
  intro ws
  have e : forall ws : List Nat, (Str.join (Str.ofString "") (ws.map Lt)).cps = (ws.map (97 + ·)).toArray := by
    intro ws
    induction ws with
    | nil => rfl
    | cons x xs ih =>
      cases xs with
      | nil => rfl
      | cons y ys =>
        show ((Lt x ++ Str.ofString "") ++ Str.join (Str.ofString "") ((y :: ys).map Lt)).cps = _
        show ((Lt x).cps ++ (Str.ofString "").cps) ++ (Str.join (Str.ofString "") ((y :: ys).map Lt)).cps = _
        rw [ih]
        show (#[97 + x] ++ #[]) ++ ((y :: ys).map (97 + ·)).toArray = _
        simp
  rw [show Txt.join (Str.ofString "") (ws.map Lt) = Str.join (Str.ofString "") (ws.map Lt) from by first | exact HT.join_eq _ _ | exact L2.HT.join_eq _ _ | exact PyProof.glued_eq_join _ _ | exact TL.join_eq _ _]
  unfold J
  rw [← e ws]
theorem J_len (ws : List Nat) : (J ws).length = ws.length := by
  show (ws.map (97 + ·)).toArray.size = _
  simp
theorem fJoin_1 {ws : List Nat} (h : ws.length ≤ 1000) : o2 fJoin (some (Str.ofString "")) (some (ws.map Lt)) = some (J ws) := by
  show fJoin _ _ = _
  unfold fJoin
  have e : ((ws.map Lt).map (·.length)).sum = ws.length := by
    clear h
    induction ws with
    | nil => rfl
    | cons x xs ih =>
      rw [List.map_cons, List.map_cons, List.sum_cons, ih, List.length_cons]
      show 1 + _ = _
      omega
  rw [if_pos (by rw [e]; show ws.length + (ws.map Lt).length * 0 ≤ 16777216; omega), join_L]
theorem al_ : forall n : Fin 26, Unicode.isAlpha (97 + n.val) = true := by decide +kernel
theorem lo_ : forall n : Fin 26, Unicode.isLower (97 + n.val) = true := by decide +kernel
theorem up_ : forall n : Fin 26, (Unicode.isUpper (97 + n.val) || Unicode.isTitle (97 + n.val)) = false := by decide +kernel
def Nm (x : Str) : Prop := exists ws : List Nat, x = J ws ∧ 1 ≤ ws.length ∧ ws.length ≤ 8 ∧ forall i, i ∈ ws -> i < 26
theorem name_1 {ws : List Nat} (h1 : 1 ≤ ws.length) (h2 : ws.length ≤ 8) (h : forall i, i ∈ ws -> i < 26) : m_is_name (.str (J ws)) = some true ∧ strOk (J ws) = true ∧ Nm (J ws) := by
  have hm : forall {p : Nat -> Bool}, (forall i, i < 26 -> p (97 + i) = true) -> (J ws).cps.all p = true := fun {p} hp => by
    show (ws.map (97 + ·)).toArray.all p = true
    simp only [List.all_toArray, List.all_map, List.all_eq_true]
    exact fun i hi => hp i (h i hi)
  constructor
  · have hl := J_len ws
    unfold m_is_name
    have e1 : o1 fLenX (some (J ws)) = some (ws.length : Int) := by
      show fLenX (J ws) = _
      unfold fLenX
      rw [hl, if_pos (by omega)]
    have e2 : oOr (oNot (o1 (fIsY "str") (some (Dy.str (J ws))))) (oNot (oChain fLe fLe (some (1 : Int)) (o1 fLenX (o1 yStr (some (Dy.str (J ws))))) (some (8 : Int)))) = some false := by
      rw [show o1 fLenX (o1 yStr (some (Dy.str (J ws)))) = some (ws.length : Int) from e1, show o1 (fIsY "str") (some (Dy.str (J ws))) = some true from rfl]
      have c1 : decide ((1 : Int) ≤ (ws.length : Int)) = true := decide_eq_true (by omega)
      have c2 : decide ((ws.length : Int) ≤ (8 : Int)) = true := decide_eq_true (by omega)
      simp only [oOr, oNot, oChain, fLe, Option.bind_some, c1, c2]
      rfl
    rw [e2, Option.bind_some, if_neg (by decide)]
    have a1 : Txt.isascii (J ws) = true := hm fun i hi => decide_eq_true (by omega)
    have a2 : Txt.isalpha (J ws) = true := by
      unfold Txt.isalpha
      rw [hm fun i hi => al_ ⟨i, hi⟩, hl]
      simp; omega
    have a3 : Txt.islower (J ws) = true := by
      unfold Txt.islower
      obtain ⟨x, xs, rfl⟩ : exists x xs, ws = x :: xs := by
        cases ws with
        | nil => simp at h1
        | cons x xs => exact ⟨x, xs, rfl⟩
      have b1 : (J (x :: xs)).cps.any Unicode.isLower = true := by
        show ((x :: xs).map (97 + ·)).toArray.any _ = true
        simp only [List.any_toArray, List.map_cons, List.any_cons, lo_ ⟨x, h x List.mem_cons_self⟩, Bool.true_or]
      have b2 : (J (x :: xs)).cps.any (fun c => Unicode.isUpper c || Unicode.isTitle c) = false := by
        show ((x :: xs).map (97 + ·)).toArray.any _ = false
        rw [List.any_toArray, List.any_map, List.any_eq_false]
        intro i hi
        show ¬ ((Unicode.isUpper (97 + i) || Unicode.isTitle (97 + i)) = true)
        rw [up_ ⟨i, h i hi⟩]; decide
      rw [b1, b2]; rfl
    show oAnd (some (Txt.isascii (J ws))) (oAnd (some (Txt.isalpha (J ws))) (some (Txt.islower (J ws)))) = _
    rw [a1, a2, a3]; rfl
  · exact ⟨hm fun i hi => decide_eq_true (by omega), ws, rfl, h1, h2, h⟩
end Law

set_option Elab.async false
set_option linter.all false
set_option maxRecDepth 100000
namespace Law
open PySem PySem.Spec PyProof.Rows L2 Pu
open Pu.Rp (rp)
theorem cutM_map {A B : Type} (f : A -> B) (xs : List A) (lo hi : Option Int) : cutM (xs.map f) lo hi = (cutM xs lo hi).map f := by
  unfold cutM
  rw [List.length_map, List.map_take, List.map_drop]
theorem cutM_to {A : Type} (xs : List A) (k : Nat) : cutM xs none (some (k : Int)) = xs.take k := by
  unfold cutM
  rw [HT.sIx_none, HT.sIx_nat, List.drop_zero, Nat.sub_zero]
  rw [List.take_eq_take_iff]; omega
theorem cutM_in {A : Type} (xs : List A) (a b : Nat) : cutM xs (some (a : Int)) (some (b : Int)) = (xs.drop (min a xs.length)).take (min b xs.length - min a xs.length) := by
  unfold cutM
  rw [HT.sIx_nat, HT.sIx_nat]
theorem mapc {I A : Type} {f : I -> Option A} {g : I -> A} {xs : List I} (hl : xs.length ≤ 90000) (h : forall x, x ∈ xs -> f x = some (g x)) : oComp (fun _ => some true) f (some xs) = some (xs.map g) := by
  unfold oComp lim
  rw [Option.bind_some, if_pos (by omega), Option.bind_some]
  exact comp_all (fun _ _ => rfl) h
theorem fold_app {I : Type} {f : List Str -> I -> Option (List Str)} {g : I -> Str} : forall {xs : List I} {s : List Str}, s.length + xs.length ≤ 1000 -> (forall x, x ∈ xs -> forall s : List Str, s.length ≤ 1000 -> f s x = some (s ++ [g x])) -> foldO f s xs = some (s ++ xs.map g)
  | [], s, _, _ => by simp [foldO]
  | x :: xs, s, hl, h => by
    simp only [List.length_cons] at hl
    unfold foldO
    rw [h x List.mem_cons_self s (by omega), Option.bind_some, fold_app (by rw [List.length_append]; simp only [List.length_cons, List.length_nil]; omega) fun y hy => h y (List.mem_cons_of_mem _ hy), List.append_assoc]
    rfl
theorem ix_map {A B : Type} (f : A -> B) {xs : List A} {i : Int} {x : A} (h : ix xs i = some x) : ix (xs.map f) i = some (f x) := by
  unfold ix atI at h ⊢
  rw [List.length_map]
  cases e : ixN xs.length i with
  | none => rw [e] at h; cases h
  | some j =>
    rw [e] at h
    show (xs.map f)[j]? = _
    rw [List.getElem?_map, show xs[j]? = some x from h]; rfl
/-- one word -/
def wA (A B : List Nat) (m step k : Int) : List Nat := A ++ [((m + step * k) % 26).toNat] ++ B
def wB (rs : List Nat) (r0 : Nat) (k : Int) : List Nat := if k < 8 then cutM rs none (some (1 + k)) else [(r0 + 1) % 26]
theorem l1_1 {c : Int} {rs : List Nat} {a long step m11 m12 k : Int} {r0 : Nat} {s : List Str} (hr : rs.length = 8) (h26 : forall i, i ∈ rs -> i < 26) (hs : 0 ≤ step ∧ step ≤ 11) (e11 : m_law_mixed c 11 = some m11) (e12 : m_law_mixed c 12 = some m12) (hr0 : ix rs 0 = some r0) (hr0' : r0 < 26)
    (hl : s.length ≤ 1000) (hk : 0 ≤ k ∧ k < 9) : m_law_names_l1 c abc (rs.map Lt) a long step s k = some (s ++ [J (if m12 % 4 = 1 then wB rs r0 k else wA (cutM rs none (some a)) (cutM rs (some (a + 1)) (some long)) m11 step k)]) := by
  have c1 := cutM_len rs none (some a)
  have c2 := cutM_len rs (some (a + 1)) (some long)
  have c3 := cutM_len rs none (some (1 + k))
  unfold m_law_names_l1
  rw [show o2 m_law_mixed (some c) (some (11 : Int)) = some m11 from e11, show o2 m_law_mixed (some c) (some (12 : Int)) = some m12 from e12, mul_1 _ _ (.inl (by omega))]
  rw [show o2 fMod (o2 fAdd (some m11) (some (step * k))) (some (26 : Int)) = some ((m11 + step * k) % 26) from mod_1 _ (by decide)]
  rw [show o2 fIxS (some abc) (some ((m11 + step * k) % 26)) = some (Lt ((m11 + step * k) % 26).toNat) from ixs_1 (Int.emod_nonneg _ (by decide)) (Int.emod_lt_of_pos _ (by decide)), Option.bind_some]
  have ew : o2 fCat (o2 fCat (o3 fCut (some (rs.map Lt)) (some none) ((some a).map some)) (o1 szOk (o2 fCons (some (Lt ((m11 + step * k) % 26).toNat)) (some ([] : List Str))))) (o3 fCut (some (rs.map Lt)) ((o2 fAdd (some a) (some (1 : Int))).map some) ((some long).map some)) = some ((wA (cutM rs none (some a)) (cutM rs (some (a + 1)) (some long)) m11 step k).map Lt) := by
    have e1 : o2 fCat (o3 fCut (some (rs.map Lt)) (some none) ((some a).map some)) (o1 szOk (o2 fCons (some (Lt ((m11 + step * k) % 26).toNat)) (some ([] : List Str)))) = some ((cutM rs none (some a) ++ [((m11 + step * k) % 26).toNat]).map Lt) := by
      show szOk (cutM (rs.map Lt) none (some a) ++ [Lt ((m11 + step * k) % 26).toNat]) = _
      rw [cutM_map]
      unfold szOk
      rw [if_pos (by simp only [List.length_append, List.length_map, List.length_cons, List.length_nil]; omega), List.map_append]
      rfl
    rw [e1]
    show szOk ((cutM rs none (some a) ++ [((m11 + step * k) % 26).toNat]).map Lt ++ cutM (rs.map Lt) (some (a + 1)) (some long)) = _
    rw [cutM_map]
    unfold szOk
    rw [if_pos (by simp only [List.length_append, List.length_map, List.length_cons, List.length_nil]; omega), ← List.map_append]
    rfl
  rw [ew, Option.bind_some]
  rw [show o2 fEq (o2 fMod (some m12) (some (4 : Int))) (some (1 : Int)) = some (decide (m12 % 4 = 1)) from by rw [mod_1 m12 (by decide)]; rfl, Option.bind_some]
  have hA : (wA (cutM rs none (some a)) (cutM rs (some (a + 1)) (some long)) m11 step k).length ≤ 1000 := by
    unfold wA
    simp only [List.length_append, List.length_cons, List.length_nil]
    omega
  by_cases hc : m12 % 4 = 1
  · rw [if_pos (decide_eq_true hc), if_pos hc]
    have eb : (oIf (o2 fLt (some k) (some (8 : Int))) (o3 fCut (some (rs.map Lt)) (some none) ((o2 fAdd (some (1 : Int)) (some k)).map some)) (o1 szOk (o2 fCons (o2 fIxS (some abc) (o2 fMod (o2 fAdd (o2 fSIndex (some abc) (o2 ix (some (rs.map Lt)) (some (0 : Int)))) (some (1 : Int))) (some (26 : Int)))) (some ([] : List Str))))) = some ((wB rs r0 k).map Lt) := by
      rw [show o2 ix (some (rs.map Lt)) (some (0 : Int)) = some (Lt r0) from ix_map Lt hr0]
      rw [show o2 fSIndex (some abc) (some (Lt r0)) = some (r0 : Int) from six_abc ⟨r0, hr0'⟩]
      rw [show o2 fMod (o2 fAdd (some (r0 : Int)) (some (1 : Int))) (some (26 : Int)) = some (((r0 : Int) + 1) % 26) from mod_1 _ (by decide)]
      rw [show o2 fIxS (some abc) (some (((r0 : Int) + 1) % 26)) = some (Lt (((r0 : Int) + 1) % 26).toNat) from ixs_1 (Int.emod_nonneg _ (by decide)) (Int.emod_lt_of_pos _ (by decide))]
      rw [show o2 fLt (some k) (some (8 : Int)) = some (decide (k < 8)) from rfl]
      unfold oIf wB
      rw [Option.bind_some]
      by_cases h8 : k < 8
      · rw [if_pos (decide_eq_true h8), if_pos h8]
        show some (cutM (rs.map Lt) none (some (1 + k))) = _
        rw [cutM_map]
      · rw [if_neg (by simp [h8]), if_neg h8]
        show some [Lt (((r0 : Int) + 1) % 26).toNat] = _
        rw [show (((r0 : Int) + 1) % 26).toNat = (r0 + 1) % 26 by omega]
        rfl
    rw [eb, Option.bind_some]
    have hB : (wB rs r0 k).length ≤ 1000 := by
      unfold wB
      split
      · omega
      · simp
    rw [fJoin_1 hB, Option.bind_some, fApp_1 (by omega)]
    rfl
  · rw [if_neg (by simp [hc]), if_neg hc, fJoin_1 hA, Option.bind_some, fApp_1 (by omega)]
    rfl
end Law

set_option Elab.async false
set_option linter.all false
set_option maxRecDepth 100000
namespace Law
open PySem PySem.Spec PyProof.Rows L2 Pu
open Pu.Rp (rp)
theorem rng9 : rng 0 9 = [0, 1, 2, 3, 4, 5, 6, 7, 8] := by decide +kernel
theorem rng8 : rng 0 8 = [0, 1, 2, 3, 4, 5, 6, 7] := by decide +kernel
theorem r8 : o1 fRng1 (some (8 : Int)) = some (rng 0 8) := by
  unfold o1 fRng1
  rw [Option.bind_some, if_pos (by decide)]
theorem r9 : o1 fRng1 (some (9 : Int)) = some (rng 0 9) := by
  unfold o1 fRng1
  rw [Option.bind_some, if_pos (by decide)]
theorem mem9 {k : Int} (h : k ∈ rng 0 9) : 0 ≤ k ∧ k < 9 := by
  rw [rng9] at h
  simp only [List.mem_cons, List.not_mem_nil, or_false] at h
  omega
theorem wA_inj {A B : List Nat} {m step i j : Int} (hs : step ∈ [(1 : Int), 3, 5, 7, 9, 11]) (hi : 0 ≤ i ∧ i < 9) (hj : 0 ≤ j ∧ j < 9) (h : wA A B m step i = wA A B m step j) : i = j := by
  unfold wA at h
  rw [List.append_assoc, List.append_assoc] at h
  have h1 := List.append_cancel_left h
  have h2 := (List.cons.inj h1).1
  have n1 := Int.emod_nonneg (m + step * i) (b := 26) (by decide)
  have n2 := Int.emod_nonneg (m + step * j) (b := 26) (by decide)
  have h3 : (m + step * i) % 26 = (m + step * j) % 26 := by omega
  simp only [List.mem_cons, List.not_mem_nil, or_false] at hs
  rcases hs with rfl | rfl | rfl | rfl | rfl | rfl <;> omega
theorem wB_lt {rs : List Nat} {r0 : Nat} (hr : rs.length = 8) {k : Int} (hk : 0 ≤ k ∧ k < 8) : wB rs r0 k = rs.take (k.toNat + 1) := by
  unfold wB
  rw [if_pos hk.2, show (1 + k) = ((k.toNat + 1 : Nat) : Int) by omega, cutM_to]
theorem wB_8 {rs : List Nat} {r0 : Nat} : wB rs r0 8 = [(r0 + 1) % 26] := by
  unfold wB
  rw [if_neg (by decide)]
theorem wB_inj {rs : List Nat} {r0 : Nat} {i j : Int} (hr : rs.length = 8) (h0 : rs[0]? = some r0) (hr0 : r0 < 26) (hi : 0 ≤ i ∧ i < 9) (hj : 0 ≤ j ∧ j < 9) (h : wB rs r0 i = wB rs r0 j) : i = j := by
  have key : forall k : Int, 0 ≤ k ∧ k < 8 -> wB rs r0 k = [(r0 + 1) % 26] -> False := fun k hk e => by
    rw [wB_lt hr hk] at e
    have l := congrArg List.length e
    rw [List.length_take, hr] at l
    simp only [List.length_cons, List.length_nil] at l
    have : k.toNat = 0 := by omega
    rw [this] at e
    cases rs with
    | nil => cases h0
    | cons x xs =>
      simp at h0
      subst h0
      simp at e
      omega
  by_cases h8 : i < 8 <;> by_cases h9 : j < 8
  · rw [wB_lt hr ⟨hi.1, h8⟩, wB_lt hr ⟨hj.1, h9⟩] at h
    have l := congrArg List.length h
    rw [List.length_take, List.length_take, hr] at l
    omega
  · have : j = 8 := by omega
    subst this
    rw [wB_8] at h
    exact (key i ⟨hi.1, h8⟩ h).elim
  · have : i = 8 := by omega
    subst this
    rw [wB_8] at h
    exact (key j ⟨hj.1, h9⟩ h.symm).elim
  · omega
theorem names_1 (c : Int) : exists l, m_law_names c 9 = some l ∧ l.length = 9 ∧ l.Nodup ∧ forall x, x ∈ l -> m_is_name (.str x) = some true ∧ strOk x = true ∧ Nm x := by
  obtain ⟨m8, e8, _, _⟩ := mix_1 c 8
  obtain ⟨m9, e9, _, _⟩ := mix_1 c 9
  obtain ⟨m10, e10, p10, _⟩ := mix_1 c 10
  obtain ⟨m11, e11, _, _⟩ := mix_1 c 11
  obtain ⟨m12, e12, _, _⟩ := mix_1 c 12
  let R : Int -> Nat := fun y => (((m_law_mixed c y).getD 0) % 26).toNat
  obtain ⟨rs, ers⟩ : exists rs, rs = (rng 0 8).map R := ⟨_, rfl⟩
  have hr : rs.length = 8 := by rw [ers, List.length_map, rng8]; rfl
  have h26 : forall i, i ∈ rs -> i < 26 := fun i hi => by
    rw [ers] at hi
    obtain ⟨y, _, rfl⟩ := List.mem_map.mp hi
    show ((((m_law_mixed c y).getD 0) % 26 : Int)).toNat < 26
    have := Int.emod_nonneg ((m_law_mixed c y).getD 0) (b := 26) (by decide)
    have := Int.emod_lt_of_pos ((m_law_mixed c y).getD 0) (b := 26) (by decide)
    omega
  have er : oComp (fun (y : Int) => (some true)) (fun (y : Int) => (o2 fIxS (some abc) (o2 fMod (o2 m_law_mixed (some c) (some y)) (some (26 : Int))))) (some (rng 0 8)) = some (rs.map Lt) := by
    rw [mapc (g := fun y => Lt (R y)) (by rw [rng8]; decide) fun y _ => ?_, ers, List.map_map]
    · rfl
    · obtain ⟨v, hv, _⟩ := mix_1 c y
      show o2 fIxS (some abc) (o2 fMod (m_law_mixed c y) (some (26 : Int))) = some (Lt (((m_law_mixed c y).getD 0) % 26).toNat)
      rw [hv, mod_1 v (by decide)]
      exact ixs_1 (Int.emod_nonneg _ (by decide)) (Int.emod_lt_of_pos _ (by decide))
  obtain ⟨r0, hr0, hr0m, hr0'⟩ := ix_nat (s := rs) (i := 0) (by decide) (by omega)
  have hr0'' : rs[0]? = some r0 := hr0'
  have hr26 := h26 r0 hr0m
  have a0 := Int.emod_nonneg m8 (b := 8) (by decide)
  have a1 := Int.emod_lt_of_pos m8 (b := 8) (by decide)
  obtain ⟨a, ea⟩ : exists a, a = m8 % 8 := ⟨_, rfl⟩
  rw [← ea] at a0 a1
  have b0 := Int.emod_nonneg m9 (b := 8 - a) (by omega)
  have b1 := Int.emod_lt_of_pos m9 (b := 8 - a) (by omega)
  obtain ⟨long, el⟩ : exists long, long = a + 1 + m9 % (8 - a) := ⟨_, rfl⟩
  obtain ⟨step, es, hs, _⟩ := ix_nat (s := [(1 : Int), 3, 5, 7, 9, 11]) (i := m10 % 6) (Int.emod_nonneg _ (by decide)) (Int.emod_lt_of_pos _ (by decide))
  have hs' : 0 ≤ step ∧ step ≤ 11 := by
    simp only [List.mem_cons, List.not_mem_nil, or_false] at hs
    omega
  let W : Int -> List Nat := fun k => if m12 % 4 = 1 then wB rs r0 k else wA (cutM rs none (some a)) (cutM rs (some (a + 1)) (some long)) m11 step k
  have run : m_law_names c 9 = some ((rng 0 9).map fun k => J (W k)) := by
    unfold m_law_names
    rw [Option.bind_some, r8, er, Option.bind_some]
    rw [show o2 fMod (o2 m_law_mixed (some c) (some (8 : Int))) (some (8 : Int)) = some a from by rw [show o2 m_law_mixed (some c) (some (8 : Int)) = some m8 from e8, ea]; exact mod_1 m8 (by decide), Option.bind_some]
    rw [show o2 fAdd (o2 fAdd (some a) (some (1 : Int))) (o2 fMod (o2 m_law_mixed (some c) (some (9 : Int))) (o2 fSub (some (8 : Int)) (some a))) = some long from by
      rw [show o2 m_law_mixed (some c) (some (9 : Int)) = some m9 from e9, show o2 fMod (some m9) (o2 fSub (some (8 : Int)) (some a)) = some (m9 % (8 - a)) from mod_1 m9 (by omega), el]; rfl, Option.bind_some]
    rw [show o2 ix (o1 szOk (o2 fCons (some (1 : Int)) (o2 fCons (some (3 : Int)) (o2 fCons (some (5 : Int)) (o2 fCons (some (7 : Int)) (o2 fCons (some (9 : Int)) (o2 fCons (some (11 : Int)) (some ([] : List Int))))))))) (o2 fMod (o2 m_law_mixed (some c) (some (10 : Int))) (some (6 : Int))) = some step from by
      rw [show o2 m_law_mixed (some c) (some (10 : Int)) = some m10 from e10, mod_1 m10 (by decide)]; exact es, Option.bind_some]
    rw [r9, Option.bind_some]
    rw [fold_app (g := fun k => J (W k)) (by rw [rng9]; decide) fun k hk s hl => l1_1 hr h26 hs' e11 e12 hr0 hr26 hl (mem9 hk)]
    rfl
  refine ⟨_, run, by rw [List.length_map, rng9]; rfl, ?_, fun x hx => ?_⟩
  · refine List.pairwise_map.mpr (List.Pairwise.imp_of_mem (R := fun x y => x ≠ y) (fun {i j} hi hj hne e => hne ?_) (by rw [rng9]; decide))
    have e2 := J_inj e
    have e3 : (if m12 % 4 = 1 then wB rs r0 i else wA (cutM rs none (some a)) (cutM rs (some (a + 1)) (some long)) m11 step i) = (if m12 % 4 = 1 then wB rs r0 j else wA (cutM rs none (some a)) (cutM rs (some (a + 1)) (some long)) m11 step j) := e2
    by_cases hc : m12 % 4 = 1
    · rw [if_pos hc, if_pos hc] at e3
      exact wB_inj hr hr0'' hr26 (mem9 hi) (mem9 hj) e3
    · rw [if_neg hc, if_neg hc] at e3
      exact wA_inj hs (mem9 hi) (mem9 hj) e3
  · obtain ⟨k, hk, rfl⟩ := List.mem_map.mp hx
    have hk9 := mem9 hk
    show m_is_name (.str (J (if m12 % 4 = 1 then wB rs r0 k else wA (cutM rs none (some a)) (cutM rs (some (a + 1)) (some long)) m11 step k))) = some true ∧ strOk (J (if m12 % 4 = 1 then wB rs r0 k else wA (cutM rs none (some a)) (cutM rs (some (a + 1)) (some long)) m11 step k)) = true ∧ Nm (J (if m12 % 4 = 1 then wB rs r0 k else wA (cutM rs none (some a)) (cutM rs (some (a + 1)) (some long)) m11 step k))
    by_cases hc : m12 % 4 = 1
    · rw [if_pos hc]
      by_cases h8 : k < 8
      · rw [wB_lt hr ⟨hk9.1, h8⟩]
        exact name_1 (by rw [List.length_take, hr]; omega) (by rw [List.length_take, hr]; omega) fun i hi => h26 i (List.mem_of_mem_take hi)
      · have : k = 8 := by omega
        subst this
        rw [wB_8]
        exact name_1 (by simp) (by simp) fun i hi => by rw [List.mem_singleton.mp hi]; omega
    · rw [if_neg hc]
      have eA : cutM rs none (some a) = rs.take a.toNat := by
        rw [show a = ((a.toNat : Nat) : Int) by omega, cutM_to]
        rw [Int.toNat_natCast]
      have eB : cutM rs (some (a + 1)) (some long) = (rs.drop (min (a.toNat + 1) rs.length)).take (min long.toNat rs.length - min (a.toNat + 1) rs.length) := by
        rw [show a + 1 = ((a.toNat + 1 : Nat) : Int) by omega, show long = ((long.toNat : Nat) : Int) by omega, cutM_in]
        rw [Int.toNat_natCast]
      have lA : (cutM rs none (some a)).length ≤ a.toNat := by rw [eA, List.length_take]; omega
      have lB : (cutM rs (some (a + 1)) (some long)).length ≤ long.toNat - (a.toNat + 1) := by rw [eB, List.length_take, List.length_drop, hr]; omega
      have hl8 : long ≤ 8 := by omega
      refine name_1 ?_ ?_ fun i hi => ?_
      · unfold wA
        simp only [List.length_append, List.length_cons, List.length_nil]
        omega
      · unfold wA
        simp only [List.length_append, List.length_cons, List.length_nil]
        omega
      · unfold wA at hi
        rcases List.mem_append.mp hi with hi | hi
        · rcases List.mem_append.mp hi with hi | hi
          · rw [eA] at hi; exact h26 i (List.mem_of_mem_take hi)
          · rw [List.mem_singleton.mp hi]
            have := Int.emod_nonneg (m11 + step * k) (b := 26) (by decide)
            have := Int.emod_lt_of_pos (m11 + step * k) (b := 26) (by decide)
            omega
        · rw [eB] at hi; exact h26 i (List.mem_of_mem_drop (List.mem_of_mem_take hi))
theorem cell_1 (s : Scr) {k : Int} (h : 0 ≤ k) : exists v, m_law_cell_at s k = some v := by
  unfold m_law_cell_at
  rw [show o2 fLt (some k) (o1 fLenS (some s)) = some (decide (k < (s.l.length : Int))) from rfl, Option.bind_some]
  by_cases hk : k < (s.l.length : Int)
  · rw [if_pos (decide_eq_true hk)]
    obtain ⟨x, e, _⟩ := ix_nat (s := s.l) (i := k) h hk
    exact ⟨x, e⟩
  · rw [if_neg (by simp [hk])]
    exact ⟨0, rfl⟩
theorem words_m (s : Scr) : exists people groups, m_law_words s = some (people, groups) ∧ Wd people groups [] ∧ forall x, x ∈ people ∨ x ∈ groups -> Nm x := by
  obtain ⟨c0, e0⟩ := cell_1 s (k := 0) (by decide)
  obtain ⟨c1, e1⟩ := cell_1 s (k := 1) (by decide)
  obtain ⟨one, e2, _⟩ := mix_1 c0 1
  obtain ⟨oth, e3, _⟩ := mix_1 c1 2
  obtain ⟨N1, n1, l1, d1, v1⟩ := names_1 one
  obtain ⟨N2, n2, l2, d2, v2⟩ := names_1 oth
  have hf := List.length_filter_le (fun y => !decide (y ∈ N1)) N2
  obtain ⟨N, eN⟩ : exists N, N = N1 ++ N2.filter (fun y => !decide (y ∈ N1)) := ⟨_, rfl⟩
  have lN : 9 ≤ N.length ∧ N.length ≤ 18 := by rw [eN, List.length_append]; omega
  have dN : N.Nodup := by
    rw [eN]
    refine List.nodup_append.mpr ⟨d1, d2.filter _, fun y hy z hz e => ?_⟩
    subst e
    have := (List.mem_filter.mp hz).2
    simp [hy] at this
  have vN : forall x, x ∈ N -> m_is_name (.str x) = some true ∧ strOk x = true ∧ Nm x := fun x hx => by
    rw [eN] at hx
    rcases List.mem_append.mp hx with h | h
    · exact v1 x h
    · exact v2 x (List.mem_filter.mp h).1
  have hmin := imin_le (i := 9) (j := (N.length : Int) - 1)
  have q0 := Int.emod_nonneg oth (b := imin 9 ((N.length : Int) - 1)) (by omega)
  have q1 := Int.emod_lt_of_pos oth (b := imin 9 ((N.length : Int) - 1)) (by omega)
  obtain ⟨mn, emn⟩ : exists mn : Nat, (mn : Int) = 1 + oth % imin 9 ((N.length : Int) - 1) := ⟨(1 + oth % imin 9 ((N.length : Int) - 1)).toNat, by omega⟩
  have hm : 1 ≤ mn ∧ mn ≤ 9 ∧ mn < N.length := by omega
  refine ⟨N.take mn, (N.drop (min mn N.length)).take (min (mn + 9) N.length - min mn N.length), ?_, ?_⟩
  · unfold m_law_words
    rw [show o2 m_law_mixed (o2 m_law_cell_at (some s) (some (0 : Int))) (some (1 : Int)) = some one from by rw [show o2 m_law_cell_at (some s) (some (0 : Int)) = some c0 from e0]; exact e2, Option.bind_some]
    rw [show o2 m_law_mixed (o2 m_law_cell_at (some s) (some (1 : Int))) (some (2 : Int)) = some oth from by rw [show o2 m_law_cell_at (some s) (some (1 : Int)) = some c1 from e1]; exact e3, Option.bind_some]
    rw [show o2 m_law_names (some one) (some (9 : Int)) = some N1 from n1, Option.bind_some, show o2 m_law_names (some oth) (some (9 : Int)) = some N2 from n2]
    rw [show (fun (y146 : Str) => (o2 fNinL (some y146) (some N1))) = fun y => some (!decide (y ∈ N1)) from rfl, comp_f (by omega)]
    rw [show o2 fCat (some N1) (some (N2.filter (fun y => !decide (y ∈ N1)))) = some N from by
      show szOk _ = _
      rw [← eN]
      unfold szOk
      rw [if_pos (by omega)], Option.bind_some]
    rw [show o2 fAdd (some (1 : Int)) (o2 fMod (some oth) (o2 fMin (some (9 : Int)) (o2 fSub (o1 fLen (some N)) (some (1 : Int))))) = some (mn : Int) from by
      rw [show o2 fMod (some oth) (o2 fMin (some (9 : Int)) (o2 fSub (o1 fLen (some N)) (some (1 : Int)))) = some (oth % imin 9 ((N.length : Int) - 1)) from mod_1 oth (by omega), emn]; rfl, Option.bind_some]
    show some (cutM N none (some (mn : Int)), cutM N (some (mn : Int)) (some ((mn : Int) + 9))) = _
    rw [cutM_to, show (mn : Int) + 9 = ((mn + 9 : Nat) : Int) by omega, cutM_in]
  · have hsub : forall x, x ∈ (N.drop (min mn N.length)).take (min (mn + 9) N.length - min mn N.length) -> x ∈ N.drop mn := fun x hx => by
      have := List.mem_of_mem_take hx
      rwa [show min mn N.length = mn by omega] at this
    have hdj : forall p, p ∈ N.take mn -> ¬ p ∈ N.drop mn := fun p hp hq => by
      have := dN
      rw [← List.take_append_drop mn N] at this
      exact (List.nodup_append.mp this).2.2 p hp p hq rfl
    have suc0 : forall a, suc [] a = [] := fun a => rfl
    refine ⟨⟨List.nodup_nil, fun g h => (nomatch h), fun p hp hq => hdj p hp (hsub p hq), fun e => ?_, fun e => ?_, ?_, ?_, fun a => by rw [suc0]; exact List.nodup_nil, fun g m h => (nomatch h), fun g m h => (nomatch h), fun x hx => ?_, fun g hg => (vN g (List.mem_of_mem_drop (hsub g hg))).1, dN.sublist (List.take_sublist _ _)⟩, fun x hx => ?_⟩
    · have := congrArg List.length e
      rw [List.length_take] at this
      simp only [List.length_nil] at this
      omega
    · have := congrArg List.length e
      rw [List.length_take, List.length_drop] at this
      simp only [List.length_nil] at this
      omega
    · rw [List.length_take]; omega
    · rw [List.length_take, List.length_drop]; omega
    · rcases hx with hx | hx
      · exact (vN x (List.mem_of_mem_take hx)).2.1
      · exact (vN x (List.mem_of_mem_drop (hsub x hx))).2.1
    · rcases hx with hx | hx
      · exact (vN x (List.mem_of_mem_take hx)).2.2
      · exact (vN x (List.mem_of_mem_drop (hsub x hx))).2.2
end Law

set_option Elab.async false
set_option linter.all false
set_option maxRecDepth 100000
namespace Law
open PySem PySem.Spec PyProof.Rows L2 Pu
open Pu.Rp (rp)
def low (x : Str) : Bool := Txt.isalpha x && (Txt.islower x && decide (x.length ≤ 8))
theorem isname_1 {x : Str} (hl : x.length ≤ 100) : m_is_name (.str x) = some (decide (1 ≤ x.length) && decide (x.length ≤ 8) && (Txt.isascii x && (Txt.isalpha x && Txt.islower x))) := by
  unfold m_is_name
  have e1 : o1 fLenX (o1 yStr (some (Dy.str x))) = some (x.length : Int) := by
    show fLenX x = _
    unfold fLenX
    rw [if_pos (by omega)]
  rw [show o1 (fIsY "str") (some (Dy.str x)) = some true from rfl, e1]
  show (oOr (some false) (oNot (oAnd (some (decide ((1 : Int) ≤ (x.length : Int)))) (some (decide ((x.length : Int) ≤ (8 : Int))))))).bind _ = _
  have c1 : decide ((1 : Int) ≤ (x.length : Int)) = decide (1 ≤ x.length) := decide_eq_decide.mpr (by omega)
  have c2 : decide ((x.length : Int) ≤ (8 : Int)) = decide (x.length ≤ 8) := decide_eq_decide.mpr (by omega)
  rw [c1, c2]
  show (oOr (some false) (oNot (oAnd (some (decide (1 ≤ x.length))) (some (decide (x.length ≤ 8)))))).bind (fun b1 => if b1 = true then some false else oAnd (some (Txt.isascii x)) (oAnd (some (Txt.isalpha x)) (some (Txt.islower x)))) = _
  cases decide (1 ≤ x.length) <;> cases decide (x.length ≤ 8) <;> cases Txt.isascii x <;> cases Txt.isalpha x <;> cases Txt.islower x <;> rfl
def OddS (x : Str) : Prop := strOk x = true ∧ x.length ≤ 100 ∧ low x = false
theorem OddS.nm {x : Str} (h : OddS x) : m_is_name (.str x) = some false := by
  rw [isname_1 h.2.1]
  have := h.2.2
  unfold low at this
  revert this
  cases decide (1 ≤ x.length) <;> cases decide (x.length ≤ 8) <;> cases Txt.isascii x <;> cases Txt.isalpha x <;> cases Txt.islower x <;> decide
theorem Nm.all {x : Str} (h : Nm x) : m_is_name (.str x) = some true ∧ strOk x = true ∧ x.length ≤ 8 ∧ low x = true := by
  obtain ⟨ws, rfl, h1, h2, h3⟩ := h
  obtain ⟨a, b, c⟩ := name_1 h1 h2 h3
  have hl : (J ws).length ≤ 8 := by rw [J_len]; exact h2
  refine ⟨a, b, hl, ?_⟩
  rw [isname_1 (by omega)] at a
  unfold low
  revert a
  cases decide (1 ≤ (J ws).length) <;> cases decide ((J ws).length ≤ 8) <;> cases Txt.isascii (J ws) <;> cases Txt.isalpha (J ws) <;> cases Txt.islower (J ws) <;> decide
def NoS (d : Dy) : Prop := isY "str" d = false ∧ forall xs : List Str, (forall z, z ∈ xs -> strOk z = true) -> fNinY d xs = some true
theorem strs_shaped {xs : List Str} (h : forall z, z ∈ xs -> strOk z = true) : SeqAt.shaped (.list (xs.map PyData.str)) = true := by
  have h1 := Eqp.lay (A := List Str) xs (List.all_eq_true.mpr h)
  have h2 := Eqp.deep (A := List Str) xs
  unfold SeqAt.shaped
  rw [Bool.and_eq_true]
  exact ⟨h1, decide_eq_true (Nat.le_trans h2 (by decide))⟩
theorem nin_1 {d : Dy} {e : PyData} (hd : forall xs, fNinY d xs = (encY d).bind fun e => if SeqAt.shaped e = true ∧ SeqAt.shaped (.list (xs.map PyData.str)) = true then some (!(xs.map PyData.str).any fun z => PyData.eqv z e) else none) (he : encY d = some e) (hs : SeqAt.shaped e = true) (hq : forall z : Str, PyData.eqv (.str z) e = false) (xs : List Str) (h : forall z, z ∈ xs -> strOk z = true) : fNinY d xs = some true := by
  rw [hd, he, Option.bind_some, if_pos ⟨hs, strs_shaped h⟩]
  congr 1
  rw [Bool.not_eq_true', List.any_map, List.any_eq_false]
  intro z _
  show ¬ (PyData.eqv (.str z) e = true)
  rw [hq z]; decide
theorem nos_non : NoS .non := ⟨rfl, nin_1 (fun _ => rfl) rfl (by decide +kernel) fun z => by rw [PyData.eqv]⟩
theorem nos_bl : NoS (.bl true) := ⟨rfl, nin_1 (fun _ => rfl) rfl (by decide +kernel) fun z => by rw [PyData.eqv]⟩
theorem nos_int : NoS (.int 5) := ⟨rfl, nin_1 (fun _ => rfl) rfl (by decide +kernel) fun z => by rw [PyData.eqv]⟩
theorem nos_dct : NoS .dct := ⟨rfl, fun _ _ => rfl⟩
theorem tl_shaped {p : Str} (hp : strOk p = true) : SeqAt.shaped (.tuple [.str p]) = true := by
  have h : SeqAt.shaped (.list ([p].map PyData.str)) = true := strs_shaped fun z hz => by rw [List.mem_singleton.mp hz]; exact hp
  unfold SeqAt.shaped at h ⊢
  rw [List.map_cons, List.map_nil, PyData.canLay0, PyData.depth] at h
  rw [PyData.canLay0, PyData.depth]
  exact h
theorem nos_tup {p : Str} (hp : strOk p = true) : NoS (.tup [.str p]) := ⟨rfl, nin_1 (fun _ => rfl) rfl (tl_shaped hp) fun z => by rw [PyData.eqv]⟩
theorem nos_lst {p : Str} (hp : strOk p = true) : NoS (.lst [.str p]) := ⟨rfl, nin_1 (fun _ => rfl) rfl (strs_shaped (xs := [p]) fun z hz => by rw [List.mem_singleton.mp hz]; exact hp) fun z => by rw [PyData.eqv]⟩
theorem sp_1 {p : Str} (h : Nm p) : OddS (p ++ Str.ofString " ") := by
  obtain ⟨_, h2, h3, _⟩ := h.all
  have e : (p ++ Str.ofString " ").cps = p.cps ++ (Str.ofString " ").cps := rfl
  have hl : (p ++ Str.ofString " ").length ≤ 9 := by
    show (p ++ Str.ofString " ").cps.size ≤ 9
    rw [e, Array.size_append]
    have : (Str.ofString " ").cps.size = 1 := by decide +kernel
    have : p.cps.size ≤ 8 := h3
    omega
  refine ⟨?_, by omega, ?_⟩
  · show (p ++ Str.ofString " ").cps.all _ = true
    rw [e, Array.all_append, Bool.and_eq_true]
    exact ⟨h2, by decide +kernel⟩
  · have : Txt.isalpha (p ++ Str.ofString " ") = false := by
      unfold Txt.isalpha
      rw [e, Array.all_append, show (Str.ofString " ").cps.all Unicode.isAlpha = false from by decide +kernel]
      simp
    unfold low
    rw [this]; rfl
theorem upo_ : forall n : Fin 26, Unicode.upperOf (97 + n.val) = [65 + n.val] := by decide +kernel
theorem isu_ : forall n : Fin 26, Unicode.isUpper (65 + n.val) = true := by decide +kernel
theorem up_1' {p : Str} (h : Nm p) : fUpper p = some (Txt.upper p) ∧ OddS (Txt.upper p) := by
  obtain ⟨_, _, h3, _⟩ := h.all
  refine ⟨by unfold fUpper; rw [if_pos (by omega)], ?_⟩
  obtain ⟨ws, rfl, h1, h2, hw⟩ := h
  have e : Txt.upper (J ws) = ⟨(ws.map (65 + ·)).toArray⟩ := by
    show (⟨((J ws).cps.mapIdx fun i c => (Unicode.upperOf c).toArray).flatten⟩ : Str) = _
    congr 1
    apply Array.ext'
    rw [Array.toList_flatten]
    show (((ws.map (97 + ·)).toArray.mapIdx fun i c => (Unicode.upperOf c).toArray).toList.map Array.toList).flatten = _
    rw [Array.toList_mapIdx]
    have em : forall (l : List Nat), List.mapIdx (fun (i c : Nat) => (Unicode.upperOf c).toArray) l = l.map fun c => (Unicode.upperOf c).toArray := fun l => List.ext_getElem? fun i => by rw [List.getElem?_mapIdx, List.getElem?_map]
    rw [em]
    have eg : forall l : List Nat, (forall i, i ∈ l -> i < 26) -> (((l.map (97 + ·)).map fun c => (Unicode.upperOf c).toArray).map Array.toList).flatten = l.map (65 + ·) := by
      intro l
      induction l with
      | nil => intro _; rfl
      | cons x xs ih =>
        intro hx
        simp only [List.map_cons, List.flatten_cons]
        rw [ih fun i hi => hx i (List.mem_cons_of_mem _ hi), upo_ ⟨x, hx x List.mem_cons_self⟩]
        rfl
    exact eg ws hw
  rw [e]
  have ha : forall {q : Nat -> Bool}, (forall i, i < 26 -> q (65 + i) = true) -> (ws.map (65 + ·)).toArray.all q = true := fun {q} hq => by
    simp only [List.all_toArray, List.all_map, List.all_eq_true]
    exact fun i hi => hq i (hw i hi)
  refine ⟨ha fun i hi => decide_eq_true (by omega), by show (ws.map (65 + ·)).toArray.size ≤ 100; simp; omega, ?_⟩
  have : Txt.islower ⟨(ws.map (65 + ·)).toArray⟩ = false := by
    unfold Txt.islower
    have b : (ws.map (65 + ·)).toArray.any (fun c => Unicode.isUpper c || Unicode.isTitle c) = true := by
      cases ws with
      | nil => simp at h1
      | cons x xs =>
        simp only [List.any_toArray, List.map_cons, List.any_cons, isu_ ⟨x, hw x List.mem_cons_self⟩, Bool.true_or]
    show (_ && !(ws.map (65 + ·)).toArray.any (fun c => Unicode.isUpper c || Unicode.isTitle c)) = false
    rw [b]; simp
  unfold low
  rw [this]; simp
end Law

set_option Elab.async false
set_option linter.all false
set_option maxRecDepth 100000
namespace Law
open PySem PySem.Spec PyProof.Rows L2 Pu
open Pu.Rp (rp)
def Th (people groups : List Str) (d : Dy) : Prop := (exists x, d = .str x ∧ (x ∈ people ∨ x ∈ groups)) ∨ (exists x, d = .str x ∧ OddS x) ∨ NoS d
theorem odd_1 {people : List Str} {p : Str} (hp : ix people 0 = some p) (hn : Nm p) (n : Int) : exists d, m_law_odd n people = some d ∧ ((exists x, d = .str x ∧ OddS x) ∨ NoS d) := by
  obtain ⟨hm, hs, hl, _⟩ := hn.all
  obtain ⟨u1, u2⟩ := up_1' hn
  have e0 : o2 ix (some people) (some (0 : Int)) = some p := hp
  have e1 : o2 (fun x y => if x.length + y.length ≤ 100000 then some (x ++ y) else none) (some p) (some (Str.ofString " ")) = some (p ++ Str.ofString " ") := by
    have : (Str.ofString " ").length = 1 := by decide +kernel
    exact if_pos (by rw [this]; omega)
  unfold m_law_odd
  rw [e0, e1, show o1 fUpper (some p) = some (Txt.upper p) from u1]
  let L : List Dy := [.non, .bl true, .int 5, .str (Str.ofString ""), .str (Str.ofString "A"), .str (Str.ofString "ninesigns"), .str (p ++ Str.ofString " "), .str (Txt.upper p), .tup [.str p], .lst [.str p], .dct, .str (Str.ofString "a1"), .str (Str.ofString "a-b")]
  have h0 := Int.emod_nonneg n (b := 13) (by decide)
  have h1 := Int.emod_lt_of_pos n (b := 13) (by decide)
  obtain ⟨d, ed, hd, _⟩ := ix_nat (s := L) (i := n % 13) h0 h1
  refine ⟨d, ?_, ?_⟩
  · rw [mod_1 n (by decide)]
    show (ix L (n % 13)).bind (fun y => some y) = some d
    rw [ed]; rfl
  · have lit : forall s : Str, (strOk s && decide (s.length ≤ 100) && !low s) = true -> (exists x, Dy.str s = .str x ∧ OddS x) ∨ NoS (.str s) := fun s h => by
      rw [Bool.and_eq_true, Bool.and_eq_true, Bool.not_eq_true'] at h
      exact .inl ⟨s, rfl, h.1.1, of_decide_eq_true h.1.2, h.2⟩
    have hd' : d = .non ∨ d = .bl true ∨ d = .int 5 ∨ d = .str (Str.ofString "") ∨ d = .str (Str.ofString "A") ∨ d = .str (Str.ofString "ninesigns") ∨ d = .str (p ++ Str.ofString " ") ∨ d = .str (Txt.upper p) ∨ d = .tup [.str p] ∨ d = .lst [.str p] ∨ d = .dct ∨ d = .str (Str.ofString "a1") ∨ d = .str (Str.ofString "a-b") := by
      simpa only [L, List.mem_cons, List.not_mem_nil, or_false] using hd
    rcases hd' with rfl | rfl | rfl | rfl | rfl | rfl | rfl | rfl | rfl | rfl | rfl | rfl | rfl
    · exact .inr nos_non
    · exact .inr nos_bl
    · exact .inr nos_int
    · exact lit _ (by decide +kernel)
    · exact lit _ (by decide +kernel)
    · exact lit _ (by decide +kernel)
    · exact .inl ⟨_, rfl, sp_1 hn⟩
    · exact .inl ⟨_, rfl, u2⟩
    · exact .inr (nos_tup hs)
    · exact .inr (nos_lst hs)
    · exact .inr nos_dct
    · exact lit _ (by decide +kernel)
    · exact lit _ (by decide +kernel)
section
variable {people groups : List Str} {rows : Rows}
theorem thing_1 (w : Wd people groups rows) (hn : forall x, x ∈ people ∨ x ∈ groups -> Nm x) (n : Int) : exists d, m_law_thing n people groups = some d ∧ Th people groups d := by
  unfold m_law_thing
  rw [mod_1 n (by decide), div_1 n (by decide), Option.bind_some]
  rw [show o2 fEq (some (n % 9)) (some (0 : Int)) = some (decide (n % 9 = 0)) from rfl, Option.bind_some]
  by_cases h : n % 9 = 0
  · rw [if_pos (decide_eq_true h)]
    obtain ⟨p, hp⟩ := List.exists_mem_of_ne_nil _ w.pn
    obtain ⟨q, hq⟩ : exists q, people[0]? = some q := by
      cases hpe : people with
      | nil => exact absurd hpe w.pn
      | cons a b => exact ⟨a, rfl⟩
    have hl : (0 : Int) < (people.length : Int) := by
      have := (List.getElem?_eq_some_iff.mp hq).1
      omega
    obtain ⟨x, ex, hx, _⟩ := ix_nat (s := people) (i := 0) (by decide) hl
    obtain ⟨d, ed, hd⟩ := odd_1 ex (hn x (.inl hx)) (n / 9)
    refine ⟨d, ?_, .inr hd⟩
    rw [Option.bind_some, Option.bind_some, ed]; rfl
  · rw [if_neg (by simpa using h)]
    by_cases h4 : n % 9 < 4
    · obtain ⟨x, ex, hx⟩ := ix_mod w.pn (n / 9)
      refine ⟨.str x, ?_, .inl ⟨x, rfl, .inl hx⟩⟩
      rw [show oIf (o2 fLt (some (n % 9)) (some (4 : Int))) (some people) (some groups) = some people from by
        show oIf (some (decide (n % 9 < 4))) _ _ = _
        rw [decide_eq_true h4]; rfl, Option.bind_some, ex]
      rfl
    · obtain ⟨x, ex, hx⟩ := ix_mod w.gn (n / 9)
      refine ⟨.str x, ?_, .inl ⟨x, rfl, .inr hx⟩⟩
      rw [show oIf (o2 fLt (some (n % 9)) (some (4 : Int))) (some people) (some groups) = some groups from by
        show oIf (some (decide (n % 9 < 4))) _ _ = _
        rw [decide_eq_false h4]; rfl, Option.bind_some, ex]
      rfl
end
end Law

set_option Elab.async false
set_option linter.all false
set_option maxRecDepth 100000
namespace Law
open PySem PySem.Spec PyProof.Rows L2 Pu
open Pu.Rp (rp)
section
variable {people groups : List Str} {rows : Rows} {g m : Dy}
theorem Wd.okG (w : Wd people groups rows) : Ok rows (people ++ groups) := by
  refine ⟨fun a _ b hb => ?_, w.nd, ?_⟩
  · rcases w.cl a b hb with h | h
    · exact List.mem_append_left _ h
    · exact List.mem_append_right _ (w.kg _ h)
  · have := w.pl
    have := w.gl
    rw [List.length_append]
    omega
def pc1 (people : List Str) (rows : Rows) (g : Dy) : Option Bool := oOr (oNot (o1 m_is_name (some g))) (o2 fInT (o1 yStr (some g)) ((some (⟨people, rows⟩ : FolkS)).map (fun x => (⟨x.names⟩ : Tl Str))))
def lc1 (people : List Str) (g : Dy) : Option Bool := oOr (oNot (o1 (fIsY "str") (some g))) (oOr (oNot (o1 (fS Txt.isalpha) (o1 yStr (some g)))) (oOr (oNot (o1 (fS Txt.islower) (o1 yStr (some g)))) (oOr (o2 fGt (o1 fLenX (o1 yStr (some g))) (some (8 : Int))) (o2 fInL (o1 yStr (some g)) (some people)))))
theorem lc1_s {x : Str} (hl : x.length ≤ 100) : lc1 people (.str x) = some (!(low x) || decide (x ∈ people)) := by
  have e1 : o1 fLenX (o1 yStr (some (Dy.str x))) = some (x.length : Int) := by
    show fLenX x = _
    unfold fLenX
    rw [if_pos (by omega)]
  unfold lc1
  rw [e1]
  show oOr (some false) (oOr (oNot (some (Txt.isalpha x))) (oOr (oNot (some (Txt.islower x))) (oOr (some (decide ((8 : Int) < (x.length : Int)))) (some (decide (x ∈ people)))))) = _
  have c : decide ((8 : Int) < (x.length : Int)) = !decide (x.length ≤ 8) := by
    by_cases h : x.length ≤ 8
    · rw [decide_eq_true h, decide_eq_false (by omega)]; rfl
    · rw [decide_eq_false h, decide_eq_true (by omega)]; rfl
  rw [c]
  unfold low
  cases Txt.isalpha x <;> cases Txt.islower x <;> cases decide (x.length ≤ 8) <;> cases decide (x ∈ people) <;> rfl
theorem nos_str {d : Dy} (h : NoS d) : o1 (fIsY "str") (some d) = some false := congrArg some h.1
theorem nos_name {d : Dy} (h : NoS d) : m_is_name d = some false := by
  unfold m_is_name
  rw [nos_str h]
  rfl
theorem group_1 (w : Wd people groups rows) (hn : forall x, x ∈ people ∨ x ∈ groups -> Nm x) (hg : Th people groups g) : (pc1 people rows g = some true ∧ lc1 people g = some true) ∨ (exists gs, g = .str gs ∧ gs ∈ groups ∧ pc1 people rows g = some false ∧ lc1 people g = some false) := by
  have str : forall {x : Str}, strOk x = true -> x.length ≤ 100 -> forall {b : Bool}, m_is_name (.str x) = some b -> pc1 people rows (.str x) = some (!b || decide (x ∈ people)) := fun {x} _ _ {b} hb => by
    unfold pc1
    rw [show o1 m_is_name (some (Dy.str x)) = some b from hb]
    show oOr (some (!b)) (some (decide (x ∈ people))) = _
    cases b <;> rfl
  rcases hg with ⟨x, rfl, hx⟩ | ⟨x, rfl, h1, h2, h3⟩ | h
  · obtain ⟨n1, n2, n3, n4⟩ := (hn x hx).all
    have e1 := str n2 (by omega) n1
    have e2 := lc1_s (people := people) (x := x) (by omega)
    rw [n4] at e2
    rcases hx with hx | hx
    · rw [decide_eq_true hx] at e1 e2
      exact .inl ⟨e1, e2⟩
    · have : ¬ x ∈ people := fun h => w.dj x h hx
      rw [decide_eq_false this] at e1 e2
      exact .inr ⟨x, rfl, hx, e1, e2⟩
  · have e1 := str h1 h2 (OddS.nm ⟨h1, h2, h3⟩)
    have e2 := lc1_s (people := people) (x := x) h2
    rw [h3] at e2
    exact .inl ⟨e1, e2⟩
  · refine .inl ⟨?_, ?_⟩
    · unfold pc1
      rw [show o1 m_is_name (some g) = some false from nos_name h]; rfl
    · unfold lc1
      rw [nos_str h]; rfl
def pc2 (people : List Str) (rows : Rows) (gs : Str) (m : Dy) : Option Bool := oOr (oNot (o1 (fIsY "str") (some m))) (oNot (oOr (o2 fEqP (o1 yStr (some m)) (o1 yStr (some (Dy.str gs)))) (o2 m_Folk_has_word (some (⟨people, rows⟩ : FolkS)) (some m))))
def lc2 (people : List Str) (rows : Rows) (gs : Str) (m : Dy) : Option Bool := oOr (oNot (o1 (fIsY "str") (some m))) (oAnd (o2 fNinL (o1 yStr (some m)) (some people)) (oAnd (o2 fNinD (o1 yStr (some m)) (some (⟨rows⟩ : Ds (List Str)))) (o2 fNeP (o1 yStr (some m)) (o1 yStr (some (Dy.str gs))))))
theorem Th.sok (w : Wd people groups rows) (h : Th people groups (.str x)) : strOk x = true := by
  rcases h with ⟨y, e, hy⟩ | ⟨y, e, hy⟩ | h
  · cases e; exact w.so _ hy
  · cases e; exact hy.1
  · exact Bool.noConfusion (show true = false from h.1)
theorem member_1 (w : Wd people groups rows) (hm : Th people groups m) {gs : Str} (hg : gs ∈ groups) : (pc2 people rows gs m = some true ∧ lc2 people rows gs m = some true) ∨ (exists ms, m = .str ms ∧ (ms ∈ people ++ keys rows ∨ ms = gs) ∧ pc2 people rows gs m = some false ∧ lc2 people rows gs m = some false) := by
  have go : forall {x : Str}, m = .str x -> (pc2 people rows gs m = some true ∧ lc2 people rows gs m = some true) ∨ (exists ms, m = .str ms ∧ (ms ∈ people ++ keys rows ∨ ms = gs) ∧ pc2 people rows gs m = some false ∧ lc2 people rows gs m = some false) := by
    intro x e
    subst e
    have sx := Th.sok w hm
    have sg := w.so gs (.inr hg)
    have e1 : o2 fEqP (some x) (some gs) = some (decide (x = gs)) := by
      show fEqP x gs = _
      unfold fEqP
      rw [if_pos ⟨sx, sg⟩]
    have e2 : o2 fNeP (some x) (some gs) = some (!decide (x = gs)) := ne_1 sx sg
    have a1 : pc2 people rows gs (.str x) = some (!(decide (x = gs) || ((sget rows x).isSome || decide (x ∈ people)))) := by
      show oOr (some false) (oNot (oOr (o2 fEqP (some x) (some gs)) (oOr (some (sget rows x).isSome) (some (decide (x ∈ people)))))) = _
      rw [e1]
      cases decide (x = gs) <;> cases (sget rows x).isSome <;> cases decide (x ∈ people) <;> rfl
    have a2 : lc2 people rows gs (.str x) = some (!(decide (x = gs) || ((sget rows x).isSome || decide (x ∈ people)))) := by
      show oOr (some false) (oAnd (some (!decide (x ∈ people))) (oAnd (some (!(sget rows x).isSome)) (o2 fNeP (some x) (some gs)))) = _
      rw [e2]
      cases decide (x = gs) <;> cases (sget rows x).isSome <;> cases decide (x ∈ people) <;> rfl
    by_cases hc : (decide (x = gs) || ((sget rows x).isSome || decide (x ∈ people))) = true
    · rw [hc] at a1 a2
      refine .inr ⟨x, rfl, ?_, a1, a2⟩
      rw [Bool.or_eq_true, Bool.or_eq_true, sget_key] at hc
      rcases hc with hc | hc | hc
      · exact .inr (of_decide_eq_true hc)
      · exact .inl (List.mem_append_right _ (of_decide_eq_true hc))
      · exact .inl (List.mem_append_left _ (of_decide_eq_true hc))
    · rw [Bool.not_eq_true] at hc
      rw [hc] at a1 a2
      exact .inl ⟨a1, a2⟩
  rcases id hm with ⟨x, e, hx⟩ | ⟨x, e, hx⟩ | h
  · exact go e
  · exact go e
  · refine .inl ⟨?_, ?_⟩
    · unfold pc2
      rw [nos_str h]; rfl
    · unfold lc2
      rw [nos_str h]; rfl
end
end Law

set_option Elab.async false
set_option linter.all false
set_option maxRecDepth 100000
namespace Law
open PySem PySem.Spec PyProof.Rows L2 Pu
open Pu.Rp (rp)
theorem Rch.last {rows : Rows} {a c : Str} (h : Rch rows a c) : a = c ∨ exists b, Rch rows a b ∧ c ∈ suc rows b := by
  induction h with
  | rfl a => exact .inl (Eq.refl _)
  | step h1 h2 ih =>
    rcases ih with rfl | ⟨b, i1, i2⟩
    · exact .inr ⟨_, .rfl _, h1⟩
    · exact .inr ⟨b, .step h1 i1, i2⟩
section
variable {people groups : List Str} {rows : Rows} {g m : Dy}
theorem put_case (w : Wd people groups rows) (hn : forall x, x ∈ people ∨ x ∈ groups -> Nm x) (hg : Th people groups g) (hm : Th people groups m) :
    (m_Folk_put ⟨people, rows⟩ g m = some (.inr "NoName") ∧ m_law_put_due ⟨rows⟩ people g m = some (Str.ofString "name")) ∨ (m_Folk_put ⟨people, rows⟩ g m = some (.inr "Ring") ∧ m_law_put_due ⟨rows⟩ people g m = some (Str.ofString "ring")) ∨
    exists gs ms, g = .str gs ∧ m = .str ms ∧ gs ∈ groups ∧ ms ∈ people ++ keys rows ∧ ¬ Rch rows ms gs ∧ m_Folk_put ⟨people, rows⟩ g m = some (.inl ⟨people, rput rows gs ms⟩) ∧ m_law_put_due ⟨rows⟩ people g m = some (Str.ofString "") := by
  rcases group_1 w hn hg with ⟨e1, e2⟩ | ⟨gs, rfl, hgs, e1, e2⟩
  · refine .inl ⟨?_, ?_⟩
    · unfold m_Folk_put
      change (pc1 people rows g).bind _ = _
      rw [e1, Option.bind_some, if_pos rfl]
    · unfold m_law_put_due
      change (lc1 people g).bind _ = _
      rw [e2, Option.bind_some, if_pos rfl]
  · rcases member_1 w hm hgs with ⟨e3, e4⟩ | ⟨ms, rfl, hms, e3, e4⟩
    · refine .inl ⟨?_, ?_⟩
      · unfold m_Folk_put
        change (pc1 people rows (.str gs)).bind _ = _
        rw [e1, Option.bind_some, if_neg (by decide)]
        change (pc2 people rows gs m).bind _ = _
        rw [e3, Option.bind_some, if_pos rfl]
      · unfold m_law_put_due
        change (lc1 people (.str gs)).bind _ = _
        rw [e2, Option.bind_some, if_neg (by decide)]
        change (lc2 people rows gs m).bind _ = _
        rw [e4, Option.bind_some, if_pos rfl]
    · have hU : ms ∈ people ++ groups := by
        rcases hms with h | rfl
        · exact (List.mem_append.mp h).elim (fun z => List.mem_append_left _ z) fun z => List.mem_append_right _ (w.kg _ z)
        · exact List.mem_append_right _ hgs
      have sx := Th.sok w hm
      have sg := w.so gs (.inr hgs)
      have ee : o2 fEqP (some ms) (some gs) = some (decide (ms = gs)) := by
        show fEqP ms gs = _
        unfold fEqP
        rw [if_pos ⟨sx, sg⟩]
      obtain ⟨l, el, _, hl⟩ := reached_1 w.okG hU
      have due : m_law_put_due ⟨rows⟩ people (.str gs) (.str ms) = some (if gs ∈ l then Str.ofString "ring" else Str.ofString "") := by
        unfold m_law_put_due
        change (lc1 people (.str gs)).bind _ = _
        rw [e2, Option.bind_some, if_neg (by decide)]
        change (lc2 people rows gs (.str ms)).bind _ = _
        rw [e4, Option.bind_some, if_neg (by decide)]
        rw [show o2 m_law_reached (some (⟨rows⟩ : Ds (List Str))) (o1 yStr (some (Dy.str ms))) = some l from el]
        show oIf (some (decide (gs ∈ l))) _ _ = _
        by_cases h : gs ∈ l
        · rw [decide_eq_true h, if_pos h]; rfl
        · rw [decide_eq_false h, if_neg h]; rfl
      have put : forall b : Bool, oOr (o2 fEqP (some ms) (some gs)) (oAnd (o2 m_Folk_is_group (some (⟨people, rows⟩ : FolkS)) (some (Dy.str gs))) (o2 fInL (some ms) ((o2 m_Folk_groups_of (some (⟨people, rows⟩ : FolkS)) (some (Dy.str gs))).bind getL))) = some b ->
          m_Folk_put ⟨people, rows⟩ (.str gs) (.str ms) = if b = true then some (.inr "Ring") else fPutF ⟨people, rows⟩ gs ms := by
        intro b hb
        unfold m_Folk_put
        change (pc1 people rows (.str gs)).bind _ = _
        rw [e1, Option.bind_some, if_neg (by decide)]
        change (pc2 people rows gs (.str ms)).bind _ = _
        rw [e3, Option.bind_some, if_neg (by decide)]
        change (oOr (o2 fEqP (some ms) (some gs)) (oAnd (o2 m_Folk_is_group (some (⟨people, rows⟩ : FolkS)) (some (Dy.str gs))) (o2 fInL (some ms) ((o2 m_Folk_groups_of (some (⟨people, rows⟩ : FolkS)) (some (Dy.str gs))).bind getL)))).bind _ = _
        rw [hb, Option.bind_some]
        rfl
      have hrl := w.rl
      have ring : oOr (o2 fEqP (some ms) (some gs)) (oAnd (o2 m_Folk_is_group (some (⟨people, rows⟩ : FolkS)) (some (Dy.str gs))) (o2 fInL (some ms) ((o2 m_Folk_groups_of (some (⟨people, rows⟩ : FolkS)) (some (Dy.str gs))).bind getL))) = some (decide (gs ∈ l)) := by
        rw [ee]
        by_cases hne : ms = gs
        · rw [decide_eq_true hne, decide_eq_true ((hl gs).mpr (hne ▸ .rfl _))]; rfl
        · rw [decide_eq_false hne, show o2 m_Folk_is_group (some (⟨people, rows⟩ : FolkS)) (some (Dy.str gs)) = some (sget rows gs).isSome from rfl]
          cases hs : (sget rows gs).isSome with
          | false =>
            have : ¬ gs ∈ l := fun h => by
              rcases ((hl gs).mp h).last with e | ⟨b, _, hb⟩
              · exact hne e
              · rcases w.cl _ _ hb with z | z
                · exact w.dj gs z hgs
                · rw [sget_key, decide_eq_true z] at hs; cases hs
            rw [decide_eq_false this]; rfl
          | true =>
            obtain ⟨u, e5, _, hu2⟩ := up_1 (people := people) w.hk (by omega) (w := gs) (.inl hs)
            rw [show (o2 m_Folk_groups_of (some (⟨people, rows⟩ : FolkS)) (some (Dy.str gs))).bind getL = some (ssort u) from by
              show (m_Folk_groups_of ⟨people, rows⟩ (.str gs)).bind getL = _
              rw [e5]; rfl]
            show some (decide (ms ∈ ssort u)) = _
            congr 1
            refine decide_eq_decide.mpr ((ssort_mem ms).trans ((hu2 ms).trans (Iff.trans ?_ (hl gs).symm)))
            constructor
            · rintro ⟨k, h1, h2⟩; exact .step h1 h2
            · intro h
              cases h with
              | rfl _ => exact absurd rfl hne
              | step h1 h2 => exact ⟨_, h1, h2⟩
      have ep := put _ ring
      by_cases hr : gs ∈ l
      · rw [decide_eq_true hr, if_pos rfl] at ep
        rw [if_pos hr] at due
        exact .inr (.inl ⟨ep, due⟩)
      · rw [decide_eq_false hr, if_neg (by decide)] at ep
        rw [if_neg hr] at due
        have hnr : ¬ Rch rows ms gs := fun z => hr ((hl gs).mpr z)
        refine .inr (.inr ⟨gs, ms, rfl, rfl, hgs, hms.elim id fun e => absurd (e ▸ .rfl _) hnr, hnr, ?_, due⟩)
        rw [ep]
        unfold fPutF
        refine if_pos ⟨by show rows.length < 10000; omega, List.all_eq_true.mpr fun r hr => ?_⟩
        have := nd_len (w.nd r.1) (U := people ++ keys rows) fun z hz => w.sucU hz
        have hp := w.pl
        rw [suc_mem w.hk hr, List.length_append, List.length_map] at this
        exact decide_eq_true (by omega)
theorem ninS {y : Str} {xs : List Str} (hy : strOk y = true) (h : forall z, z ∈ xs -> strOk z = true) : fNinY (.str y) xs = some (!decide (y ∈ xs)) := by
  have s1 : SeqAt.shaped (.str y) = true := by
    have h1 := Eqp.lay (A := Str) y hy
    unfold SeqAt.shaped
    rw [Bool.and_eq_true]
    exact ⟨h1, decide_eq_true (Nat.le_trans (Eqp.deep (A := Str) y) (by decide))⟩
  show (if SeqAt.shaped (.str y) = true ∧ SeqAt.shaped (.list (xs.map PyData.str)) = true then some (!(xs.map PyData.str).any fun z => PyData.eqv z (.str y)) else none) = _
  rw [if_pos ⟨s1, strs_shaped h⟩]
  congr 2
  rw [List.any_map]
  have e : (((fun z => PyData.eqv z (.str y)) ∘ PyData.str) : Str -> Bool) = fun z => decide (z = y) := by
    funext z
    exact Eqp.eqv (A := Str) z y
  rw [e]
  by_cases hm : y ∈ xs
  · rw [decide_eq_true hm, List.any_eq_true]
    exact ⟨y, hm, by simp⟩
  · rw [decide_eq_false hm, List.any_eq_false]
    intro z hz
    simp
    intro e
    exact hm (e ▸ hz)
theorem take_case (w : Wd people groups rows) (hg : Th people groups g) (hm : Th people groups m) :
    (m_Folk_take ⟨people, rows⟩ g m = some (.inr "NoName") ∧ m_law_take_due ⟨rows⟩ g m = some (Str.ofString "name")) ∨
    exists gs ms, g = .str gs ∧ m = .str ms ∧ gs ∈ keys rows ∧ ms ∈ suc rows gs ∧ m_Folk_take ⟨people, rows⟩ g m = some (.inl ⟨people, rdel rows gs ms⟩) ∧ m_law_take_due ⟨rows⟩ g m = some (Str.ofString "") := by
  have go : forall {x : Str}, g = .str x -> (m_Folk_take ⟨people, rows⟩ g m = some (.inr "NoName") ∧ m_law_take_due ⟨rows⟩ g m = some (Str.ofString "name")) ∨
      exists gs ms, g = .str gs ∧ m = .str ms ∧ gs ∈ keys rows ∧ ms ∈ suc rows gs ∧ m_Folk_take ⟨people, rows⟩ g m = some (.inl ⟨people, rdel rows gs ms⟩) ∧ m_law_take_due ⟨rows⟩ g m = some (Str.ofString "") := by
    intro x e
    subst e
    unfold m_Folk_take m_law_take_due
    rw [show o2 m_Folk_is_group (some (⟨people, rows⟩ : FolkS)) (some (Dy.str x)) = some (sget rows x).isSome from rfl, show o1 (fIsY "str") (some (Dy.str x)) = some true from rfl,
      show o2 fNinD (o1 yStr (some (Dy.str x))) (some (⟨rows⟩ : Ds (List Str))) = some (!(sget rows x).isSome) from rfl]
    cases hs : sget rows x with
    | none => exact .inl ⟨rfl, rfl⟩
    | some xs =>
      have hsu : suc rows x = xs := by unfold suc; rw [hs]; rfl
      have hk : x ∈ keys rows := by
        have := sget_key (rows := rows) (k := x)
        rw [hs] at this
        exact of_decide_eq_true this.symm
      have sxs : forall z, z ∈ xs -> strOk z = true := fun z hz => w.sok (w.sucU (g := x) (by rw [hsu]; exact hz))
      rw [show (o2 fGetD ((some (⟨people, rows⟩ : FolkS)).map (fun x => (⟨x.rows⟩ : Ds (List Str)))) (o1 yStr (some (Dy.str x)))) = some xs from hs, show o2 fGetD (some (⟨rows⟩ : Ds (List Str))) (o1 yStr (some (Dy.str x))) = some xs from hs]
      have hmm : (exists y, m = .str y ∧ strOk y = true) ∨ NoS m := by
        rcases id hm with ⟨y, e, hy⟩ | ⟨y, e, hy⟩ | h
        · exact .inl ⟨y, e, w.so y hy⟩
        · exact .inl ⟨y, e, hy.1⟩
        · exact .inr h
      rcases hmm with ⟨y, rfl, sy⟩ | h
      · rw [show o1 (fIsY "str") (some (Dy.str y)) = some true from rfl, show o2 fNinL (o1 yStr (some (Dy.str y))) (some xs) = some (!decide (y ∈ xs)) from rfl, show o2 fNinY (some (Dy.str y)) (some xs) = some (!decide (y ∈ xs)) from ninS sy sxs]
        by_cases hy : y ∈ xs
        · rw [decide_eq_true hy]
          refine .inr ⟨x, y, rfl, rfl, hk, hsu ▸ hy, ?_, rfl⟩
          show fTakeF ⟨people, rows⟩ x y = _
          unfold fTakeF
          show (match sget rows x with | some xs => if y ∈ xs then some (Sum.inl (⟨people, rdel rows x y⟩ : FolkS)) else none | none => (none : Option (FolkS ⊕ String))) = _
          rw [hs]
          show (if y ∈ xs then some (Sum.inl (⟨people, rdel rows x y⟩ : FolkS)) else (none : Option (FolkS ⊕ String))) = _
          rw [if_pos hy]
        · rw [decide_eq_false hy]
          exact .inl ⟨rfl, rfl⟩
      · rw [nos_str h, show o2 fNinY (some m) (some xs) = some true from h.2 xs sxs]
        exact .inl ⟨rfl, rfl⟩
  rcases id hg with ⟨x, e, hx⟩ | ⟨x, e, hx⟩ | h
  · exact go e
  · exact go e
  · refine .inl ⟨?_, ?_⟩
    · unfold m_Folk_take
      rw [show o2 m_Folk_is_group (some (⟨people, rows⟩ : FolkS)) (some g) = some false from by
        show oAnd (o1 (fIsY "str") (some g)) _ = _
        rw [nos_str h]; rfl]
      rfl
    · unfold m_law_take_due
      rw [nos_str h]; rfl
end
end Law

set_option Elab.async false
set_option linter.all false
set_option maxRecDepth 100000
namespace Law
open PySem PySem.Spec PyProof.Rows L2 Pu
open Pu.Rp (rp)
theorem comp_m {I C : Type} {c : I -> Option C} {d : I -> C} : forall {xs : List I}, (forall x, x ∈ xs -> c x = some (d x)) -> comp (fun _ => some true) c xs = some (xs.map d)
  | [], _ => rfl
  | x :: xs, h => by
    unfold comp
    rw [Option.bind_some, if_pos rfl, h x List.mem_cons_self, comp_m fun y hy => h y (List.mem_cons_of_mem _ hy)]
    rfl
theorem comp_om {I C : Type} {c : I -> Option C} {d : I -> C} {xs : List I} (hl : xs.length ≤ 90000) (h : forall x, x ∈ xs -> c x = some (d x)) : oComp (fun _ => some true) c (some xs) = some (xs.map d) := by
  unfold oComp lim
  rw [Option.bind_some, if_pos (by omega), Option.bind_some]
  exact comp_m h
abbrev nameY : Dy := (ToY.to (⟨[Str.ofString "name"]⟩ : Tl Str) : Dy)
abbrev ringY : Dy := (ToY.to (⟨[Str.ofString "ring"]⟩ : Tl Str) : Dy)
theorem bad_name (x : FolkS) : badM x "NoName" = some (nameY, x) := by
  have : m_law_kinds (Sum.inr ⟨"NoName"⟩) = some [Str.ofString "name"] := by decide +kernel
  show okc _ _ ((o1 fTuple (m_law_kinds (Sum.inr ⟨"NoName"⟩))).map _) = _
  rw [this]; rfl
theorem bad_ring (x : FolkS) : badM x "Ring" = some (ringY, x) := by
  have : m_law_kinds (Sum.inr ⟨"Ring"⟩) = some [Str.ofString "ring"] := by decide +kernel
  show okc _ _ ((o1 fTuple (m_law_kinds (Sum.inr ⟨"Ring"⟩))).map _) = _
  rw [this]; rfl
theorem tr_put (x : FolkS) (t o : Dy) : m_law_tried x (Str.ofString "put") t o = triedM x (m_Folk_put x t o) := by
  unfold m_law_tried
  rw [show o2 fEqP (some (Str.ofString "put")) (some (Str.ofString "put")) = some true from by decide +kernel]; rfl
theorem tr_take (x : FolkS) (t o : Dy) : m_law_tried x (Str.ofString "take") t o = triedM x (m_Folk_take x t o) := by
  unfold m_law_tried
  rw [show o2 fEqP (some (Str.ofString "take")) (some (Str.ofString "put")) = some false from by decide +kernel, show o2 fEqP (some (Str.ofString "take")) (some (Str.ofString "take")) = some true from by decide +kernel]; rfl
theorem tr_in (x : FolkS) (t o : Dy) : m_law_tried x (Str.ofString "in") t o = triedN x (m_Folk_in_it x t) := by
  unfold m_law_tried
  rw [show o2 fEqP (some (Str.ofString "in")) (some (Str.ofString "put")) = some false from by decide +kernel, show o2 fEqP (some (Str.ofString "in")) (some (Str.ofString "take")) = some false from by decide +kernel, show o2 fEqP (some (Str.ofString "in")) (some (Str.ofString "in")) = some true from by decide +kernel]; rfl
theorem tr_around (x : FolkS) (t o : Dy) : m_law_tried x (Str.ofString "around") t o = triedN x (m_Folk_groups_of x t) := by
  unfold m_law_tried
  rw [show o2 fEqP (some (Str.ofString "around")) (some (Str.ofString "put")) = some false from by decide +kernel, show o2 fEqP (some (Str.ofString "around")) (some (Str.ofString "take")) = some false from by decide +kernel, show o2 fEqP (some (Str.ofString "around")) (some (Str.ofString "in")) = some false from by decide +kernel, show o2 fEqP (some (Str.ofString "around")) (some (Str.ofString "around")) = some true from by decide +kernel]; rfl
theorem tr_straight (x : FolkS) (t o : Dy) : m_law_tried x (Str.ofString "straight") t o = triedN x (m_Folk_straight x t) := by
  unfold m_law_tried
  rw [show o2 fEqP (some (Str.ofString "straight")) (some (Str.ofString "put")) = some false from by decide +kernel, show o2 fEqP (some (Str.ofString "straight")) (some (Str.ofString "take")) = some false from by decide +kernel, show o2 fEqP (some (Str.ofString "straight")) (some (Str.ofString "in")) = some false from by decide +kernel, show o2 fEqP (some (Str.ofString "straight")) (some (Str.ofString "around")) = some false from by decide +kernel]; rfl
def doneK (F : FolkS) (R : Ds (List Str)) (people : List Str) (deed : Str) (g m : Dy) : Option (Bool × FolkS × Ds (List Str)) :=
  (oIf (o2 fEqP (some deed) (some (Str.ofString "put"))) (o4 m_law_put_due (some R) (some people) (some g) (some m)) (o3 m_law_take_due (some R) (some g) (some m))).bind fun due =>
  (m_law_tried F deed g m).bind fun r => (o2 fNeP (some due) (some (Str.ofString ""))).bind fun b => if b = true then (o2 fEqY (some r.1) ((o1 fTup (o2 fCons (some due) (some ([] : List Str)))).map (ToY.to : Tl Str -> Dy))).bind fun y => some (y, r.2, R) else
  (oComp (fun y => oOr (o2 fEqP (some deed) (some (Str.ofString "put"))) (o2 fNeP (some y) (o1 yStr (some m)))) (fun y => some y) (o3 fGet2 (some R) (o1 yStr (some g)) (o1 szOk (some ([] : List Str))))).bind fun own =>
  (o2 fCat (some own) (o2 fRep (o1 szOk (o2 fCons (o1 yStr (some m)) (some ([] : List Str)))) (o1 fIntB (oAnd (o2 fEqP (some deed) (some (Str.ofString "put"))) (o2 fNinL (o1 yStr (some m)) (some own)))))).bind fun y =>
  (o1 yStr (some g)).bind fun k => (fSput R.l k y).bind fun z => (o2 fEqY (some r.1) ((o1 szOk (o2 fCons (some ()) (some ([] : List Unit)))).map (ToY.to : List Unit -> Dy))).bind fun q => some (q, r.2, ⟨z⟩)
def doneG (F : FolkS) (R : Ds (List Str)) (people groups : List Str) (more : Int) (deed : Str) (g : Dy) : Option (Bool × FolkS × Ds (List Str)) :=
  (o2 fDiv (some more) (some (36 : Int))).bind fun y => (m_law_thing y people groups).bind fun mem =>
  (oAnd (o2 fEqP (some deed) (some (Str.ofString "take"))) (oAnd (o1 (fIsY "str") (some g)) (oAnd (o2 fNeP (o3 fGet2 (some R) (o1 yStr (some g)) (o1 szOk (some ([] : List Str)))) (o1 szOk (some ([] : List Str)))) (o2 fGt (o2 fMod (some more) (some (3 : Int))) (some (0 : Int)))))).bind fun b =>
  if b = true then ((o2 ix (o2 fGetD (some R) (o1 yStr (some g))) (o2 fMod (o2 fDiv (some more) (some (36 : Int))) (o1 fLen (o2 fGetD (some R) (o1 yStr (some g)))))).map (ToY.to : Str -> Dy)).bind fun member => doneK F R people deed g member
  else doneK F R people deed g mem
theorem done_eq (F : FolkS) (R : Ds (List Str)) (people groups : List Str) (n more : Int) : m_law_done F R people groups n more =
    (o2 ix (o1 szOk (o2 fCons (some (Str.ofString "put")) (o2 fCons (some (Str.ofString "put")) (o2 fCons (some (Str.ofString "put")) (o2 fCons (some (Str.ofString "take")) (some ([] : List Str))))))) (o2 fMod (some n) (some (4 : Int)))).bind fun deed =>
    (o2 fDiv (some n) (some (4 : Int))).bind fun y => (m_law_thing y people groups).bind fun g => (o2 fGt (o2 fMod (some more) (some (4 : Int))) (some (0 : Int))).bind fun b =>
    if b = true then ((o2 ix (some groups) (o2 fMod (o2 fDiv (some more) (some (4 : Int))) (o1 fLen (some groups)))).map (ToY.to : Str -> Dy)).bind fun g' => doneG F R people groups more deed g' else doneG F R people groups more deed g := rfl
end Law

set_option Elab.async false
set_option linter.all false
set_option maxRecDepth 100000
namespace Law
open PySem PySem.Spec PyProof.Rows L2 Pu
open Pu.Rp (rp)
theorem eq_name : o2 fEqY (some nameY) ((o1 fTup (o2 fCons (some (Str.ofString "name")) (some ([] : List Str)))).map (ToY.to : Tl Str -> Dy)) = some true := by decide +kernel
theorem eq_ring : o2 fEqY (some ringY) ((o1 fTup (o2 fCons (some (Str.ofString "ring")) (some ([] : List Str)))).map (ToY.to : Tl Str -> Dy)) = some true := by decide +kernel
theorem eq_non : o2 fEqY (some (ToY.to [Dy.non] : Dy)) ((o1 szOk (o2 fCons (some ()) (some ([] : List Unit)))).map (ToY.to : List Unit -> Dy)) = some true := by decide +kernel
theorem ne_name : o2 fNeP (some (Str.ofString "name")) (some (Str.ofString "")) = some true := by decide +kernel
theorem ne_ring : o2 fNeP (some (Str.ofString "ring")) (some (Str.ofString "")) = some true := by decide +kernel
theorem ne_emp : o2 fNeP (some (Str.ofString "")) (some (Str.ofString "")) = some false := by decide +kernel
theorem put_put : o2 fEqP (some (Str.ofString "put")) (some (Str.ofString "put")) = some true := by decide +kernel
theorem take_put : o2 fEqP (some (Str.ofString "take")) (some (Str.ofString "put")) = some false := by decide +kernel
section
variable {people groups : List Str} {rows : Rows} {g m : Dy}
theorem Th.mem (w : Wd people groups rows) {x : Str} (h : x ∈ people ++ keys rows) : Th people groups (.str x) :=
  .inl ⟨x, rfl, (List.mem_append.mp h).imp id fun z => w.kg x z⟩
theorem doneK_put (w : Wd people groups rows) (hn : forall x, x ∈ people ∨ x ∈ groups -> Nm x) (hg : Th people groups g) (hm : Th people groups m) :
    exists rows', doneK ⟨people, rows⟩ ⟨rows⟩ people (Str.ofString "put") g m = some (true, ⟨people, rows'⟩, ⟨rows'⟩) ∧ Wd people groups rows' := by
  unfold doneK
  rw [put_put, tr_put]
  rcases put_case w hn hg hm with ⟨e1, e2⟩ | ⟨e1, e2⟩ | ⟨gs, ms, rfl, rfl, hgs, hms, hr, e1, e2⟩
  · refine ⟨rows, ?_, w⟩
    rw [show oIf (some true) (o4 m_law_put_due (some (⟨rows⟩ : Ds (List Str))) (some people) (some g) (some m)) (o3 m_law_take_due (some (⟨rows⟩ : Ds (List Str))) (some g) (some m)) = some (Str.ofString "name") from e2, Option.bind_some, e1]
    rw [show triedM ⟨people, rows⟩ (some (.inr "NoName")) = some (nameY, ⟨people, rows⟩) from bad_name _, Option.bind_some, ne_name, Option.bind_some, if_pos rfl, eq_name]; rfl
  · refine ⟨rows, ?_, w⟩
    rw [show oIf (some true) (o4 m_law_put_due (some (⟨rows⟩ : Ds (List Str))) (some people) (some g) (some m)) (o3 m_law_take_due (some (⟨rows⟩ : Ds (List Str))) (some g) (some m)) = some (Str.ofString "ring") from e2, Option.bind_some, e1]
    rw [show triedM ⟨people, rows⟩ (some (.inr "Ring")) = some (ringY, ⟨people, rows⟩) from bad_ring _, Option.bind_some, ne_ring, Option.bind_some, if_pos rfl, eq_ring]; rfl
  · obtain ⟨rows', f1, f2, w'⟩ := wd_put w hgs hms hr
    refine ⟨rows', ?_, w'⟩
    have hrl := w.rl
    have hpl := w.pl
    have hsl := nd_len (w.nd gs) (U := people ++ keys rows) fun z hz => w.sucU hz
    rw [List.length_append, List.length_map] at hsl
    rw [show oIf (some true) (o4 m_law_put_due (some (⟨rows⟩ : Ds (List Str))) (some people) (some (Dy.str gs)) (some (Dy.str ms))) (o3 m_law_take_due (some (⟨rows⟩ : Ds (List Str))) (some (Dy.str gs)) (some (Dy.str ms))) = some (Str.ofString "") from e2, Option.bind_some, e1]
    rw [show triedM ⟨people, rows⟩ (some (.inl ⟨people, rput rows gs ms⟩)) = some ((ToY.to [Dy.non] : Dy), ⟨people, rput rows gs ms⟩) from rfl, Option.bind_some, ne_emp, Option.bind_some, if_neg (by decide)]
    rw [get2_suc rows (show o1 yStr (some (Dy.str gs)) = some gs from rfl)]
    rw [comp_o (c := fun y => oOr (some true) (o2 fNeP (some y) (o1 yStr (some (Dy.str ms))))) (d := fun _ => true) (xs := suc rows gs) (by omega) fun x _ => rfl, show (suc rows gs).filter (fun _ => true) = suc rows gs from List.filter_eq_self.mpr fun _ _ => rfl, Option.bind_some]
    rw [show oAnd (some true) (o2 fNinL (o1 yStr (some (Dy.str ms))) (some (suc rows gs))) = o2 fNinL (some ms) (some (suc rows gs)) from rfl, show o1 yStr (some (Dy.str ms)) = some ms from rfl, own_1 w, Option.bind_some]
    rw [show o1 yStr (some (Dy.str gs)) = some gs from rfl, Option.bind_some, sputs w.hk (by omega), f1, Option.bind_some, eq_non, f2]; rfl
theorem doneK_take (w : Wd people groups rows) (hg : Th people groups g) (hm : Th people groups m) :
    exists rows', doneK ⟨people, rows⟩ ⟨rows⟩ people (Str.ofString "take") g m = some (true, ⟨people, rows'⟩, ⟨rows'⟩) ∧ Wd people groups rows' := by
  unfold doneK
  rw [take_put, tr_take]
  rcases take_case w hg hm with ⟨e1, e2⟩ | ⟨gs, ms, rfl, rfl, hgs, hms, e1, e2⟩
  · refine ⟨rows, ?_, w⟩
    rw [show oIf (some false) (o4 m_law_put_due (some (⟨rows⟩ : Ds (List Str))) (some people) (some g) (some m)) (o3 m_law_take_due (some (⟨rows⟩ : Ds (List Str))) (some g) (some m)) = some (Str.ofString "name") from e2, Option.bind_some, e1]
    rw [show triedM ⟨people, rows⟩ (some (.inr "NoName")) = some (nameY, ⟨people, rows⟩) from bad_name _, Option.bind_some, ne_name, Option.bind_some, if_pos rfl, eq_name]; rfl
  · obtain ⟨rows', f1, f2, w'⟩ := wd_take (m := ms) w hgs
    refine ⟨rows', ?_, w'⟩
    have hrl := w.rl
    have hpl := w.pl
    have hsl := nd_len (w.nd gs) (U := people ++ keys rows) fun z hz => w.sucU hz
    rw [List.length_append, List.length_map] at hsl
    have sm := w.sok (w.sucU hms)
    rw [show oIf (some false) (o4 m_law_put_due (some (⟨rows⟩ : Ds (List Str))) (some people) (some (Dy.str gs)) (some (Dy.str ms))) (o3 m_law_take_due (some (⟨rows⟩ : Ds (List Str))) (some (Dy.str gs)) (some (Dy.str ms))) = some (Str.ofString "") from e2, Option.bind_some, e1]
    rw [show triedM ⟨people, rows⟩ (some (.inl ⟨people, rdel rows gs ms⟩)) = some ((ToY.to [Dy.non] : Dy), ⟨people, rdel rows gs ms⟩) from rfl, Option.bind_some, ne_emp, Option.bind_some, if_neg (by decide)]
    rw [get2_suc rows (show o1 yStr (some (Dy.str gs)) = some gs from rfl)]
    rw [comp_o (d := fun y => !decide (y = ms)) (by omega) fun x hx => by
      show oOr (some false) (o2 fNeP (some x) (some ms)) = _
      rw [ne_1 (w.sok (w.sucU hx)) sm]; rfl, Option.bind_some]
    have hfl := List.length_filter_le (fun y => !decide (y = ms)) (suc rows gs)
    rw [show o2 fCat (some ((suc rows gs).filter fun y => !decide (y = ms))) (o2 fRep (o1 szOk (o2 fCons (o1 yStr (some (Dy.str ms))) (some ([] : List Str)))) (o1 fIntB (oAnd (some false) (o2 fNinL (o1 yStr (some (Dy.str ms))) (some ((suc rows gs).filter fun y => !decide (y = ms))))))) = some ((suc rows gs).filter fun y => !decide (y = ms)) from by
      show szOk (((suc rows gs).filter fun y => !decide (y = ms)) ++ []) = _
      rw [List.append_nil]
      unfold szOk
      rw [if_pos (by omega)], Option.bind_some]
    rw [show o1 yStr (some (Dy.str gs)) = some gs from rfl, Option.bind_some, sputs w.hk (by omega), f1, Option.bind_some, eq_non, f2]; rfl
theorem doneG_1 (w : Wd people groups rows) (hn : forall x, x ∈ people ∨ x ∈ groups -> Nm x) (hg : Th people groups g) {deed : Str} (hd : deed = Str.ofString "put" ∨ deed = Str.ofString "take") (more : Int) :
    exists rows', doneG ⟨people, rows⟩ ⟨rows⟩ people groups more deed g = some (true, ⟨people, rows'⟩, ⟨rows'⟩) ∧ Wd people groups rows' := by
  obtain ⟨mem, em, hmem⟩ := thing_1 w hn (more / 36)
  unfold doneG
  rw [div_1 more (by decide), Option.bind_some, em, Option.bind_some]
  rcases hd with rfl | rfl
  · rw [show o2 fEqP (some (Str.ofString "put")) (some (Str.ofString "take")) = some false from by decide +kernel]
    obtain ⟨rows', e, w'⟩ := doneK_put w hn hg hmem
    exact ⟨rows', e, w'⟩
  · rw [show o2 fEqP (some (Str.ofString "take")) (some (Str.ofString "take")) = some true from by decide +kernel]
    have hgg : (exists x, g = .str x ∧ strOk x = true) ∨ NoS g := by
      rcases id hg with ⟨y, e, hy⟩ | ⟨y, e, hy⟩ | h
      · exact .inl ⟨y, e, w.so y hy⟩
      · exact .inl ⟨y, e, hy.1⟩
      · exact .inr h
    rcases hgg with ⟨x, rfl, _⟩ | h
    · rw [get2_suc rows (show o1 yStr (some (Dy.str x)) = some x from rfl)]
      rw [show o2 fNeP (some (suc rows x)) (o1 szOk (some ([] : List Str))) = some (!decide (suc rows x = [])) from nel_1 (fun z hz => w.sok (w.sucU hz)) (fun z hz => nomatch hz)]
      rw [show o1 (fIsY "str") (some (Dy.str x)) = some true from rfl, mod_1 more (by decide), show o2 fGt (some (more % 3)) (some (0 : Int)) = some (decide (0 < more % 3)) from rfl]
      have hb : oAnd (some true) (oAnd (some true) (oAnd (some (!decide (suc rows x = []))) (some (decide (0 < more % 3))))) = some (!decide (suc rows x = []) && decide (0 < more % 3)) := by
        cases decide (suc rows x = []) <;> cases decide (0 < more % 3) <;> rfl
      rw [hb]
      by_cases hc : (!decide (suc rows x = []) && decide (0 < more % 3)) = true
      · have hne : suc rows x ≠ [] := by
          rw [Bool.and_eq_true, Bool.not_eq_true'] at hc
          exact of_decide_eq_false hc.1
        have hk : (sget rows x).isSome = true := by
          cases hs : sget rows x with
          | none => exact absurd (by unfold suc; rw [hs]; rfl) hne
          | some _ => rfl
        obtain ⟨y, ey, hy⟩ := ix_mod hne (more / 36)
        obtain ⟨rows', e, w'⟩ := doneK_take w hg (Th.mem w (w.sucU hy))
        refine ⟨rows', ?_, w'⟩
        rw [hc, Option.bind_some, if_pos rfl, show o2 fGetD (some (⟨rows⟩ : Ds (List Str))) (o1 yStr (some (Dy.str x))) = some (suc rows x) from getD_1 hk, ey]
        exact e
      · rw [Bool.not_eq_true] at hc
        obtain ⟨rows', e, w'⟩ := doneK_take w hg hmem
        refine ⟨rows', ?_, w'⟩
        rw [hc, Option.bind_some, if_neg (by decide)]
        exact e
    · rw [nos_str h]
      obtain ⟨rows', e, w'⟩ := doneK_take w hg hmem
      exact ⟨rows', e, w'⟩
theorem done_1 (w : Wd people groups rows) (hn : forall x, x ∈ people ∨ x ∈ groups -> Nm x) (n more : Int) :
    exists rows', m_law_done ⟨people, rows⟩ ⟨rows⟩ people groups n more = some (true, ⟨people, rows'⟩, ⟨rows'⟩) ∧ Wd people groups rows' := by
  rw [done_eq, mod_1 n (by decide)]
  let L : List Str := [Str.ofString "put", Str.ofString "put", Str.ofString "put", Str.ofString "take"]
  obtain ⟨deed, e1, h1, _⟩ := ix_nat (s := L) (i := n % 4) (Int.emod_nonneg n (b := 4) (by decide)) (Int.emod_lt_of_pos n (b := 4) (by decide))
  have hd : deed = Str.ofString "put" ∨ deed = Str.ofString "take" := by
    have : deed = Str.ofString "put" ∨ deed = Str.ofString "put" ∨ deed = Str.ofString "put" ∨ deed = Str.ofString "take" := by
      simpa only [L, List.mem_cons, List.not_mem_nil, or_false] using h1
    rcases this with h | h | h | h
    · exact .inl h
    · exact .inl h
    · exact .inl h
    · exact .inr h
  obtain ⟨g, eg, hg⟩ := thing_1 w hn (n / 4)
  rw [show o2 ix (o1 szOk (o2 fCons (some (Str.ofString "put")) (o2 fCons (some (Str.ofString "put")) (o2 fCons (some (Str.ofString "put")) (o2 fCons (some (Str.ofString "take")) (some ([] : List Str))))))) (some (n % 4)) = some deed from e1, Option.bind_some]
  rw [div_1 n (by decide), Option.bind_some, eg, Option.bind_some, mod_1 more (by decide), show o2 fGt (some (more % 4)) (some (0 : Int)) = some (decide (0 < more % 4)) from rfl, Option.bind_some]
  by_cases h : 0 < more % 4
  · rw [if_pos (decide_eq_true h), div_1 more (by decide)]
    obtain ⟨y, ey, hy⟩ := ix_mod w.gn (more / 4)
    rw [ey]
    exact doneG_1 w hn (.inl ⟨y, rfl, .inr hy⟩) hd more
  · rw [if_neg (by simpa using h)]
    exact doneG_1 w hn hg hd more
theorem no_word {d : Dy} (h : m_Folk_has_word ⟨people, rows⟩ d = some false) : m_Folk_in_it ⟨people, rows⟩ d = some (.inr "NoName") ∧ m_Folk_groups_of ⟨people, rows⟩ d = some (.inr "NoName") := by
  have e : m_Folk_need_word ⟨people, rows⟩ d = some (.inr "NoName") := by
    unfold m_Folk_need_word
    rw [show o2 m_Folk_has_word (some (⟨people, rows⟩ : FolkS)) (some d) = some false from h]; rfl
  refine ⟨?_, ?_⟩
  · unfold m_Folk_in_it
    rw [show o2 m_Folk_need_word (some (⟨people, rows⟩ : FolkS)) (some d) = some (.inr "NoName") from e]; rfl
  · unfold m_Folk_groups_of
    rw [show o2 m_Folk_need_word (some (⟨people, rows⟩ : FolkS)) (some d) = some (.inr "NoName") from e]; rfl
theorem no_straight {d : Dy} (h : m_Folk_is_group ⟨people, rows⟩ d = some false) : m_Folk_straight ⟨people, rows⟩ d = some (.inr "NoName") := by
  unfold m_Folk_straight
  rw [show o2 m_Folk_is_group (some (⟨people, rows⟩ : FolkS)) (some d) = some false from h]; rfl
theorem is_straight {x : Str} (h : (sget rows x).isSome = true) : m_Folk_straight ⟨people, rows⟩ (.str x) = some (.inl (suc rows x)) := by
  unfold m_Folk_straight
  rw [show o2 m_Folk_is_group (some (⟨people, rows⟩ : FolkS)) (some (Dy.str x)) = some (sget rows x).isSome from rfl, h]
  show (o1 fList (o2 fGetD (some (⟨rows⟩ : Ds (List Str))) (some x))).bind _ = _
  rw [getD_1 h]; rfl
theorem encs : forall xs : List Str, encYs (xs.map Dy.str) = some (xs.map PyData.str)
  | [] => by rw [List.map_nil, encYs]; rfl
  | x :: xs => by
    rw [List.map_cons, encYs, encs xs, encY]; rfl
theorem eq_self {xs : List Str} (h : forall z, z ∈ xs -> strOk z = true) : o2 fEqY (some (ToY.to [Dy.lst (xs.map Dy.str)] : Dy)) ((o1 szOk (o2 fCons (some xs) (some ([] : List (List Str))))).map (ToY.to : List (List Str) -> Dy)) = some true := by
  have e : encY (.lst [.lst (xs.map Dy.str)]) = some (.list [.list (xs.map PyData.str)]) := by
    rw [encY, encYs, encYs, encY, encs xs]; rfl
  have hs : SeqAt.shaped (.list [.list (xs.map PyData.str)]) = true := by
    have h1 := Eqp.lay (A := List (List Str)) [xs] (by
      show [xs].all (fun x => x.all strOk) = true
      rw [List.all_cons, List.all_nil, Bool.and_true]
      exact List.all_eq_true.mpr h)
    have h2 := Eqp.deep (A := List (List Str)) [xs]
    unfold SeqAt.shaped
    rw [Bool.and_eq_true]
    exact ⟨h1, decide_eq_true (Nat.le_trans h2 (by decide))⟩
  show fEqY (.lst [.lst (xs.map Dy.str)]) (.lst [.lst (xs.map Dy.str)]) = some true
  unfold fEqY
  rw [e, Option.bind_some, Option.bind_some, if_pos ⟨hs, hs⟩]
  have := Eqp.eqv (A := List (List Str)) [xs] [xs]
  rw [decide_eq_true rfl] at this
  exact congrArg some this
def askT (F : FolkS) (R : Ds (List Str)) (d : Dy) (deed : Str) (b : Option Bool) : Option (Bool × FolkS × Ds (List Str)) :=
  b.bind fun there => (m_law_tried F deed d .non).bind fun r => (oNot (some there)).bind fun c => if c = true then (o2 fEqY (some r.1) ((o1 fTup (o2 fCons (some (Str.ofString "name")) (some ([] : List Str)))).map (ToY.to : Tl Str -> Dy))).bind fun y => some (y, r.2, R)
    else (oAnd (o1 (fIsY "list") (some r.1)) (oOr (o2 fNeP (some deed) (some (Str.ofString "straight"))) (o2 fEqY (some r.1) ((o1 szOk (o2 fCons (o2 fGetD (some R) (o1 yStr (some d))) (some ([] : List (List Str))))).map (ToY.to : List (List Str) -> Dy))))).bind fun y => some (y, r.2, R)
def thereO (R : Ds (List Str)) (people : List Str) (d : Dy) (deed : Str) : Option Bool := oAnd (o1 (fIsY "str") (some d)) (oOr (o2 fInD (o1 yStr (some d)) (some R)) (oAnd (o2 fInL (o1 yStr (some d)) (some people)) (o2 fNeP (some deed) (some (Str.ofString "straight")))))
theorem asked_eq (F : FolkS) (R : Ds (List Str)) (people groups : List Str) (n : Int) : m_law_asked F R people groups n =
    (o2 fDiv (some n) (some (3 : Int))).bind fun y => (m_law_thing y people groups).bind fun d => (o2 ix (o1 szOk (o2 fCons (some (Str.ofString "in")) (o2 fCons (some (Str.ofString "around")) (o2 fCons (some (Str.ofString "straight")) (some ([] : List Str)))))) (o2 fMod (some n) (some (3 : Int)))).bind fun deed =>
    askT F R d deed (thereO R people d deed) := rfl
theorem ask_no {F : FolkS} {R : Ds (List Str)} {d : Dy} {deed : Str} {b : Option Bool} (ht : m_law_tried F deed d .non = some (nameY, F)) (hb : b = some false) : askT F R d deed b = some (true, F, R) := by
  unfold askT
  rw [hb, Option.bind_some, ht, Option.bind_some, show oNot (some false) = some true from rfl, Option.bind_some, if_pos rfl, eq_name]; rfl
theorem ask_yes {F : FolkS} {R : Ds (List Str)} {d : Dy} {deed : Str} {b : Option Bool} {xs : List Str} (ht : m_law_tried F deed d .non = some ((ToY.to [Dy.lst (xs.map Dy.str)] : Dy), F))
    (hc : oOr (o2 fNeP (some deed) (some (Str.ofString "straight"))) (o2 fEqY (some (ToY.to [Dy.lst (xs.map Dy.str)] : Dy)) ((o1 szOk (o2 fCons (o2 fGetD (some R) (o1 yStr (some d))) (some ([] : List (List Str))))).map (ToY.to : List (List Str) -> Dy))) = some true) (hb : b = some true) : askT F R d deed b = some (true, F, R) := by
  unfold askT
  rw [hb, Option.bind_some, ht, Option.bind_some, show oNot (some true) = some false from rfl, Option.bind_some, if_neg (by decide), hc]; rfl
theorem bad_no {F : FolkS} {r : Option (List Str ⊕ String)} (h : r = some (.inr "NoName")) : triedN F r = some (nameY, F) := by
  rw [h]; exact bad_name _
theorem asked_1 (w : Wd people groups rows) (hn : forall x, x ∈ people ∨ x ∈ groups -> Nm x) (n : Int) : m_law_asked ⟨people, rows⟩ ⟨rows⟩ people groups n = some (true, ⟨people, rows⟩, ⟨rows⟩) := by
  have hrl := w.rl
  have hpl := w.pl
  obtain ⟨d, ed, hd⟩ := thing_1 w hn (n / 3)
  let L : List Str := [Str.ofString "in", Str.ofString "around", Str.ofString "straight"]
  obtain ⟨deed, e1, h1, _⟩ := ix_nat (s := L) (i := n % 3) (Int.emod_nonneg n (b := 3) (by decide)) (Int.emod_lt_of_pos n (b := 3) (by decide))
  have hdd : deed = Str.ofString "in" ∨ deed = Str.ofString "around" ∨ deed = Str.ofString "straight" := by
    simpa only [L, List.mem_cons, List.not_mem_nil, or_false] using h1
  rw [asked_eq, div_1 n (by decide), Option.bind_some, ed, Option.bind_some, mod_1 n (by decide)]
  rw [show o2 ix (o1 szOk (o2 fCons (some (Str.ofString "in")) (o2 fCons (some (Str.ofString "around")) (o2 fCons (some (Str.ofString "straight")) (some ([] : List Str)))))) (some (n % 3)) = some deed from e1, Option.bind_some]
  rcases (show (exists x, d = .str x ∧ strOk x = true) ∨ NoS d from by
      rcases id hd with ⟨y, e, hy⟩ | ⟨y, e, hy⟩ | h
      · exact .inl ⟨y, e, w.so y hy⟩
      · exact .inl ⟨y, e, hy.1⟩
      · exact .inr h) with ⟨x, rfl, sx⟩ | h
  · have hw : m_Folk_has_word ⟨people, rows⟩ (.str x) = some ((sget rows x).isSome || decide (x ∈ people)) := by
      show oOr (some (sget rows x).isSome) (some (decide (x ∈ people))) = _
      cases (sget rows x).isSome <;> rfl
    have hx : forall b : Bool, o2 fNeP (some deed) (some (Str.ofString "straight")) = some b -> thereO ⟨rows⟩ people (.str x) deed = some ((sget rows x).isSome || (decide (x ∈ people) && b)) := by
      intro b hb
      unfold thereO
      rw [hb]
      show oAnd (some true) (oOr (some (sget rows x).isSome) (oAnd (some (decide (x ∈ people))) (some b))) = _
      cases (sget rows x).isSome <;> cases decide (x ∈ people) <;> cases b <;> rfl
    have two : o2 fNeP (some deed) (some (Str.ofString "straight")) = some true -> (m_Folk_has_word ⟨people, rows⟩ (.str x) = some false -> m_law_tried ⟨people, rows⟩ deed (.str x) .non = some (nameY, ⟨people, rows⟩)) ->
        (((sget rows x).isSome = true ∨ x ∈ people) -> exists xs : List Str, m_law_tried ⟨people, rows⟩ deed (.str x) .non = some ((ToY.to [Dy.lst (xs.map Dy.str)] : Dy), ⟨people, rows⟩)) ->
        askT ⟨people, rows⟩ ⟨rows⟩ (.str x) deed (thereO ⟨rows⟩ people (.str x) deed) = some (true, ⟨people, rows⟩, ⟨rows⟩) := fun hb t1 t2 => by
      have hx := hx true hb
      rw [Bool.and_true] at hx
      by_cases hc : ((sget rows x).isSome || decide (x ∈ people)) = true
      · rw [hc] at hx
        rw [Bool.or_eq_true] at hc
        obtain ⟨xs, ex⟩ := t2 (hc.imp id of_decide_eq_true)
        exact ask_yes ex (by rw [hb]; rfl) hx
      · rw [Bool.not_eq_true] at hc
        rw [hc] at hx hw
        exact ask_no (t1 hw) hx
    rcases hdd with rfl | rfl | rfl
    · refine two (by decide +kernel) (fun h => by rw [tr_in]; exact bad_no (no_word h).1) (fun h => ?_)
      have hU : x ∈ people ++ groups := by
        rcases h with h | h
        · rw [sget_key] at h
          exact List.mem_append_right _ (w.kg _ (of_decide_eq_true h))
        · exact List.mem_append_left _ h
      obtain ⟨l, el, _⟩ := in_1 w.okG hU h (by omega)
      exact ⟨_, by rw [tr_in, el]; rfl⟩
    · refine two (by decide +kernel) (fun h => by rw [tr_around]; exact bad_no (no_word h).2) (fun h => ?_)
      obtain ⟨l, el, _⟩ := up_1 (people := people) w.hk (by omega) h
      exact ⟨_, by rw [tr_around, el]; rfl⟩
    · have hx := hx false (by decide +kernel)
      rw [Bool.and_false, Bool.or_false] at hx
      cases hs : (sget rows x).isSome with
      | false =>
        rw [hs] at hx
        exact ask_no (by rw [tr_straight]; exact bad_no (no_straight (by show some (sget rows x).isSome = _; rw [hs]))) hx
      | true =>
        rw [hs] at hx
        refine ask_yes (xs := suc rows x) (by rw [tr_straight, is_straight hs]; rfl) ?_ hx
        rw [show o2 fNeP (some (Str.ofString "straight")) (some (Str.ofString "straight")) = some false from by decide +kernel, show o2 fGetD (some (⟨rows⟩ : Ds (List Str))) (o1 yStr (some (Dy.str x))) = some (suc rows x) from getD_1 hs, eq_self fun z hz => w.sok (w.sucU hz)]
        rfl
  · have hi : m_Folk_is_group ⟨people, rows⟩ d = some false := by
      unfold m_Folk_is_group
      rw [nos_str h]; rfl
    have hw : m_Folk_has_word ⟨people, rows⟩ d = some false := by
      unfold m_Folk_has_word
      rw [show o2 m_Folk_is_group (some (⟨people, rows⟩ : FolkS)) (some d) = some false from hi, nos_str h]; rfl
    refine ask_no ?_ (by unfold thereO; rw [nos_str h]; rfl)
    rcases hdd with rfl | rfl | rfl
    · rw [tr_in]; exact bad_no (no_word hw).1
    · rw [tr_around]; exact bad_no (no_word hw).2
    · rw [tr_straight]; exact bad_no (no_straight hi)
end
end Law

set_option Elab.async false
set_option linter.all false
set_option maxRecDepth 100000
namespace Law
open PySem PySem.Spec PyProof.Rows L2 Pu
open Pu.Rp (rp)
section
variable {people groups : List Str} {rows : Rows} {g m : Dy}
theorem stands_1 (w : Wd people groups rows) : m_law_stands ⟨people, rows⟩ ⟨rows⟩ = some true := by
  have hrl := w.rl
  have e1 : o1 m_Folk_groups (some (⟨people, rows⟩ : FolkS)) = some (ssort (keys rows)) := by
    show fSortS (keys rows) = _
    unfold fSortS
    rw [if_pos (by rw [List.length_map]; omega)]
  have sk : forall z, z ∈ ssort (keys rows) -> strOk z = true := fun z hz => w.sok (List.mem_append_right _ ((ssort_mem z).mp hz))
  unfold m_law_stands
  rw [e1, sortD_1 w, nel_1 sk sk, Option.bind_some, if_neg (by simp)]
  rw [comp_om (c := fun (y186 : Str) => ((o2 m_Folk_straight (some (⟨people, rows⟩ : FolkS)) (((some y186)).map (ToY.to : Str -> Dy))).bind getL)) (d := suc rows) (by rw [ssort_len, List.length_map]; omega) fun x hx => by
    show (m_Folk_straight ⟨people, rows⟩ (.str x)).bind getL = _
    rw [is_straight (key_some ((ssort_mem x).mp hx))]; rfl]
  rw [comp_om (c := fun (y187 : Str) => (o2 fGetD (some (⟨rows⟩ : Ds (List Str))) (some y187))) (d := suc rows) (by rw [ssort_len, List.length_map]; omega) fun x hx => getD_1 (key_some ((ssort_mem x).mp hx))]
  show fEqP _ _ = _
  unfold fEqP
  have ho : Eqp.ok ((ssort (keys rows)).map (suc rows)) = true := by
    show ((ssort (keys rows)).map (suc rows)).all (fun x => x.all strOk) = true
    rw [List.all_eq_true]
    intro x hx
    obtain ⟨y, hy, rfl⟩ := List.mem_map.mp hx
    exact List.all_eq_true.mpr fun z hz => w.sok (w.sucU hz)
  rw [if_pos ⟨ho, ho⟩, decide_eq_true rfl]
end
def Fine (people groups : List Str) (s : S2) : Prop := exists r1 r2, s = ([⟨people, r1⟩, ⟨people, r2⟩], [⟨r1⟩, ⟨r2⟩]) ∧ Wd people groups r1 ∧ Wd people groups r2
theorem step_1 {people groups : List Str} (hn : forall x, x ∈ people ∨ x ∈ groups -> Nm x) {s : S2} (h : Fine people groups s) (x : Int × Int) : exists s', m_law_l1 people groups s x = some (.inl s') ∧ Fine people groups s' := by
  obtain ⟨r1, r2, rfl, w1, w2⟩ := h
  obtain ⟨n, e1, _⟩ := mix_1 x.2 (3 + x.1)
  obtain ⟨mo, e2, _⟩ := mix_1 x.2 (200 + x.1)
  obtain ⟨ak, e3, _⟩ := mix_1 x.2 (400 + x.1)
  unfold m_law_l1
  rw [show o2 m_law_mixed (some x.2) (o2 fAdd (some (3 : Int)) (some x.1)) = some n from e1, Option.bind_some, mod_1 n (by decide), Option.bind_some]
  rw [show o2 m_law_mixed (some x.2) (o2 fAdd (some (200 : Int)) (some x.1)) = some mo from e2, show o2 m_law_mixed (some x.2) (o2 fAdd (some (400 : Int)) (some x.1)) = some ak from e3, div_1 n (by decide)]
  rcases (by omega : n % 2 = 0 ∨ n % 2 = 1) with h | h <;> rw [h]
  · obtain ⟨r', d1, w'⟩ := done_1 w1 hn (n / 2) mo
    have a1 := asked_1 w' hn ak
    refine ⟨([⟨people, r'⟩, ⟨people, r2⟩], [⟨r'⟩, ⟨r2⟩]), ?_, r', r2, rfl, w', w2⟩
    show (m_law_done ⟨people, r1⟩ ⟨r1⟩ people groups (n / 2) mo).bind _ = _
    rw [d1, Option.bind_some]
    show (m_law_asked ⟨people, r'⟩ ⟨r'⟩ people groups ak).bind _ = _
    rw [a1, Option.bind_some]
    show (oOr (oNot (m_law_stands ⟨people, r'⟩ ⟨r'⟩)) (oNot (m_law_stands ⟨people, r2⟩ ⟨r2⟩))).bind _ = _
    rw [stands_1 w', stands_1 w2]
    rfl
  · obtain ⟨r', d1, w'⟩ := done_1 w2 hn (n / 2) mo
    have a1 := asked_1 w' hn ak
    refine ⟨([⟨people, r1⟩, ⟨people, r'⟩], [⟨r1⟩, ⟨r'⟩]), ?_, r1, r', rfl, w1, w'⟩
    show (m_law_done ⟨people, r2⟩ ⟨r2⟩ people groups (n / 2) mo).bind _ = _
    rw [d1, Option.bind_some]
    show (m_law_asked ⟨people, r'⟩ ⟨r'⟩ people groups ak).bind _ = _
    rw [a1, Option.bind_some]
    show (oOr (oNot (m_law_stands ⟨people, r'⟩ ⟨r'⟩)) (oNot (m_law_stands ⟨people, r1⟩ ⟨r1⟩))).bind _ = _
    rw [stands_1 w', stands_1 w1]
    rfl
theorem loop_1 {people groups : List Str} (hn : forall x, x ∈ people ∨ x ∈ groups -> Nm x) : forall {xs : List (Int × Int)} {s : S2}, Fine people groups s -> exists s', loopM (m_law_l1 people groups) s xs = some (.inl s') ∧ Fine people groups s'
  | [], s, h => ⟨s, rfl, h⟩
  | x :: xs, s, h => by
    obtain ⟨s1, e, h1⟩ := step_1 hn h x
    unfold loopM
    rw [e, Option.bind_some]
    exact loop_1 hn h1
theorem m_law_true (ns : List Int) {n : Nat} (h : ns.length ≤ n) : m_law ⟨ns⟩ = some true := by
  obtain ⟨people, groups, e1, w, hn⟩ := words_m ⟨ns⟩
  unfold m_law
  rw [show o1 m_law_words (some (⟨ns⟩ : Scr)) = some (people, groups) from e1, Option.bind_some]
  rw [show o1 fList (some (people, groups).1) = some people from rfl, Option.bind_some, Option.bind_some]
  rw [show (o3 fCutS (some (⟨ns⟩ : Scr)) ((some (2 : Int)).map some) ((some (120 : Int)).map some)).map enum = some (enum (cutM ns (some 2) (some 120))) from rfl, Option.bind_some]
  obtain ⟨s', e4, r1, r2, rfl, w1, w2⟩ := loop_1 hn (xs := enum (cutM ns (some 2) (some 120))) (s := ([⟨people, []⟩, ⟨people, []⟩], [⟨[]⟩, ⟨[]⟩])) ⟨[], [], rfl, w, w⟩
  rw [e4, Option.bind_some]
  show m_law_end people _ = _
  obtain ⟨p, hp⟩ : exists p, ix people 0 = some p ∧ p ∈ people := by
    have hl := List.length_pos_iff.mpr w.pn
    obtain ⟨x, ex, hx, _⟩ := ix_nat (s := people) (i := 0) (by decide) (by omega)
    exact ⟨x, ex, hx⟩
  unfold m_law_end
  show (o2 ix (some people) (some (0 : Int))).bind _ = _
  rw [show o2 ix (some people) (some (0 : Int)) = some p from hp.1, Option.bind_some]
  have ep : m_Folk_put ⟨people, r1⟩ (.str p) (.str p) = some (.inr "NoName") := by
    rcases group_1 (rows := r1) w1 hn (g := .str p) (.inl ⟨p, rfl, .inl hp.2⟩) with ⟨e1, _⟩ | ⟨gs, e, hgs, _⟩
    · unfold m_Folk_put
      change (pc1 people r1 (.str p)).bind _ = _
      rw [e1, Option.bind_some, if_pos rfl]
    · cases e
      exact absurd hgs (w1.dj p hp.2)
  rw [tr_put, ep, show triedM ⟨people, r1⟩ (some (.inr "NoName")) = some (nameY, ⟨people, r1⟩) from bad_name _, Option.bind_some]
  show oAnd (o2 fEqY (some nameY) _) (m_law_stands ⟨people, r1⟩ ⟨r1⟩) = _
  rw [eq_name, stands_1 w1]
  rfl
end Law

set_option Elab.async false
set_option linter.all false
set_option maxRecDepth 100000
namespace Law
open PySem PySem.Spec PyProof.Rows L2 Pu
open Pu.Rp (rp)
def spLaw (K : Fg) : Sp := fun vs H Q _ => exists (a : Addr) (ns : List Int), vs = [.ref a] ∧ SqL K H a (ns.map V.int) ∧ ns.length ≤ 63 ∧ forall H', Q (.bl true) H'
theorem all_mk {l : PySem.W.OpenLaw} {w : World} {K : Fg} {h : Heap} {mg : Str → Option Value} {fa : Addr} (X : K.In h) (G : h.Ns mainGlobals mg) (hfa : mg "law" = some (.ref fa))
    {C_Folk : Addr}
    (e_Folk : PySem.W.nsIn K mainGlobals "Folk" = some (some (.ref C_Folk)))
    (pg_Folk : PySem.W.plainGet K C_Folk Str.empty = true)
    (hd_Folk : PySem.W.hasDictIn K C_Folk = true)
    (po_Folk : PySem.W.plainOver K C_Folk = true)
    (sa_Folk : PySem.W.findIn K (.ref C_Folk) "__setattr__" = some (some (.builtin "object.__setattr__")))
    (mk_Folk : PySem.W.makesIn K C_Folk = true)
    (ck_Folk : PySem.W.keepIn K (.ref C_Folk) = true)
    (na_Folk_members : PySem.W.findIn K (.ref C_Folk) "members" = some none)
    (na_Folk_names : PySem.W.findIn K (.ref C_Folk) "names" = some none)
    {f0 : Addr} {od0 an0 : Option Addr} {sl0 : Array (Option Value)} {oc0 kV0 dc0 pm0 cd0 ct0 : Value}
    (a0 : PySem.W.nsIn K mainGlobals "is_name" = some (some (.ref f0)))
    (l0 : K.lookup f0 = some ⟨oc0, od0, .func (PySem.W.fnOf "is_name" "is_name" (defArgs s_is_name) (defBody s_is_name) (defScope s_is_name) .none kV0 dc0 pm0 an0 cd0 ct0), sl0⟩)
    (c0 : PySem.W.codeIn K cd0 "is_name" = true)
    (k0 : PySem.W.keepIn K (.ref f0) = true)
    {f1 : Addr} {od1 an1 : Option Addr} {sl1 : Array (Option Value)} {oc1 kV1 dc1 pm1 cd1 ct1 : Value}
    (a1 : PySem.W.findIn K (.ref C_Folk) "people" = some (some (.ref f1)))
    (n1 : PySem.W.isFn K (.ref f1) = true)
    (l1 : K.lookup f1 = some ⟨oc1, od1, .func (PySem.W.fnOf "people" "Folk.people" (defArgs s_Folk_people) (defBody s_Folk_people) (defScope s_Folk_people) .none kV1 dc1 pm1 an1 cd1 ct1), sl1⟩)
    (c1 : PySem.W.codeIn K cd1 "Folk.people" = true)
    (k1 : PySem.W.keepIn K (.ref f1) = true)
    {f2 : Addr} {od2 an2 : Option Addr} {sl2 : Array (Option Value)} {oc2 kV2 dc2 pm2 cd2 ct2 : Value}
    (a2 : PySem.W.findIn K (.ref C_Folk) "groups" = some (some (.ref f2)))
    (n2 : PySem.W.isFn K (.ref f2) = true)
    (l2 : K.lookup f2 = some ⟨oc2, od2, .func (PySem.W.fnOf "groups" "Folk.groups" (defArgs s_Folk_groups) (defBody s_Folk_groups) (defScope s_Folk_groups) .none kV2 dc2 pm2 an2 cd2 ct2), sl2⟩)
    (c2 : PySem.W.codeIn K cd2 "Folk.groups" = true)
    (k2 : PySem.W.keepIn K (.ref f2) = true)
    {f3 : Addr} {od3 an3 : Option Addr} {sl3 : Array (Option Value)} {oc3 kV3 dc3 pm3 cd3 ct3 : Value}
    (a3 : PySem.W.findIn K (.ref C_Folk) "is_group" = some (some (.ref f3)))
    (n3 : PySem.W.isFn K (.ref f3) = true)
    (l3 : K.lookup f3 = some ⟨oc3, od3, .func (PySem.W.fnOf "is_group" "Folk.is_group" (defArgs s_Folk_is_group) (defBody s_Folk_is_group) (defScope s_Folk_is_group) .none kV3 dc3 pm3 an3 cd3 ct3), sl3⟩)
    (c3 : PySem.W.codeIn K cd3 "Folk.is_group" = true)
    (k3 : PySem.W.keepIn K (.ref f3) = true)
    {f4 : Addr} {od4 an4 : Option Addr} {sl4 : Array (Option Value)} {oc4 kV4 dc4 pm4 cd4 ct4 : Value}
    (a4 : PySem.W.findIn K (.ref C_Folk) "straight" = some (some (.ref f4)))
    (n4 : PySem.W.isFn K (.ref f4) = true)
    (l4 : K.lookup f4 = some ⟨oc4, od4, .func (PySem.W.fnOf "straight" "Folk.straight" (defArgs s_Folk_straight) (defBody s_Folk_straight) (defScope s_Folk_straight) .none kV4 dc4 pm4 an4 cd4 ct4), sl4⟩)
    (c4 : PySem.W.codeIn K cd4 "Folk.straight" = true)
    (k4 : PySem.W.keepIn K (.ref f4) = true)
    {f5 : Addr} {od5 an5 : Option Addr} {sl5 : Array (Option Value)} {oc5 kV5 dc5 pm5 cd5 ct5 : Value}
    (a5 : PySem.W.findIn K (.ref C_Folk) "has_word" = some (some (.ref f5)))
    (n5 : PySem.W.isFn K (.ref f5) = true)
    (l5 : K.lookup f5 = some ⟨oc5, od5, .func (PySem.W.fnOf "has_word" "Folk.has_word" (defArgs s_Folk_has_word) (defBody s_Folk_has_word) (defScope s_Folk_has_word) .none kV5 dc5 pm5 an5 cd5 ct5), sl5⟩)
    (c5 : PySem.W.codeIn K cd5 "Folk.has_word" = true)
    (k5 : PySem.W.keepIn K (.ref f5) = true)
    {f6 : Addr} {od6 an6 : Option Addr} {sl6 : Array (Option Value)} {oc6 kV6 dc6 pm6 cd6 ct6 : Value}
    (a6 : PySem.W.findIn K (.ref C_Folk) "need_word" = some (some (.ref f6)))
    (n6 : PySem.W.isFn K (.ref f6) = true)
    (l6 : K.lookup f6 = some ⟨oc6, od6, .func (PySem.W.fnOf "need_word" "Folk.need_word" (defArgs s_Folk_need_word) (defBody s_Folk_need_word) (defScope s_Folk_need_word) .none kV6 dc6 pm6 an6 cd6 ct6), sl6⟩)
    (c6 : PySem.W.codeIn K cd6 "Folk.need_word" = true)
    (k6 : PySem.W.keepIn K (.ref f6) = true)
    {f7 : Addr} {od7 an7 : Option Addr} {sl7 : Array (Option Value)} {oc7 kV7 dc7 pm7 cd7 ct7 : Value}
    (a7 : PySem.W.findIn K (.ref C_Folk) "in_it" = some (some (.ref f7)))
    (n7 : PySem.W.isFn K (.ref f7) = true)
    (l7 : K.lookup f7 = some ⟨oc7, od7, .func (PySem.W.fnOf "in_it" "Folk.in_it" (defArgs s_Folk_in_it) (defBody s_Folk_in_it) (defScope s_Folk_in_it) .none kV7 dc7 pm7 an7 cd7 ct7), sl7⟩)
    (c7 : PySem.W.codeIn K cd7 "Folk.in_it" = true)
    (k7 : PySem.W.keepIn K (.ref f7) = true)
    {f8 : Addr} {od8 an8 : Option Addr} {sl8 : Array (Option Value)} {oc8 kV8 dc8 pm8 cd8 ct8 : Value}
    (a8 : PySem.W.findIn K (.ref C_Folk) "groups_of" = some (some (.ref f8)))
    (n8 : PySem.W.isFn K (.ref f8) = true)
    (l8 : K.lookup f8 = some ⟨oc8, od8, .func (PySem.W.fnOf "groups_of" "Folk.groups_of" (defArgs s_Folk_groups_of) (defBody s_Folk_groups_of) (defScope s_Folk_groups_of) .none kV8 dc8 pm8 an8 cd8 ct8), sl8⟩)
    (c8 : PySem.W.codeIn K cd8 "Folk.groups_of" = true)
    (k8 : PySem.W.keepIn K (.ref f8) = true)
    {f9 : Addr} {od9 an9 : Option Addr} {sl9 : Array (Option Value)} {oc9 kV9 dc9 pm9 cd9 ct9 : Value}
    (a9 : PySem.W.nsIn K mainGlobals "_law_cell_at" = some (some (.ref f9)))
    (l9 : K.lookup f9 = some ⟨oc9, od9, .func (PySem.W.fnOf "_law_cell_at" "_law_cell_at" (defArgs s_law_cell_at) (defBody s_law_cell_at) (defScope s_law_cell_at) .none kV9 dc9 pm9 an9 cd9 ct9), sl9⟩)
    (c9 : PySem.W.codeIn K cd9 "_law_cell_at" = true)
    (k9 : PySem.W.keepIn K (.ref f9) = true)
    {f10 : Addr} {od10 an10 : Option Addr} {sl10 : Array (Option Value)} {oc10 kV10 dc10 pm10 cd10 ct10 : Value}
    (a10 : PySem.W.nsIn K mainGlobals "_law_mixed" = some (some (.ref f10)))
    (l10 : K.lookup f10 = some ⟨oc10, od10, .func (PySem.W.fnOf "_law_mixed" "_law_mixed" (defArgs s_law_mixed) (defBody s_law_mixed) (defScope s_law_mixed) .none kV10 dc10 pm10 an10 cd10 ct10), sl10⟩)
    (c10 : PySem.W.codeIn K cd10 "_law_mixed" = true)
    (k10 : PySem.W.keepIn K (.ref f10) = true)
    {f11 : Addr} {od11 an11 : Option Addr} {sl11 : Array (Option Value)} {oc11 kV11 dc11 pm11 cd11 ct11 : Value}
    (a11 : PySem.W.nsIn K mainGlobals "_law_names" = some (some (.ref f11)))
    (l11 : K.lookup f11 = some ⟨oc11, od11, .func (PySem.W.fnOf "_law_names" "_law_names" (defArgs s_law_names) (defBody s_law_names) (defScope s_law_names) .none kV11 dc11 pm11 an11 cd11 ct11), sl11⟩)
    (c11 : PySem.W.codeIn K cd11 "_law_names" = true)
    (k11 : PySem.W.keepIn K (.ref f11) = true)
    {f12 : Addr} {od12 an12 : Option Addr} {sl12 : Array (Option Value)} {oc12 kV12 dc12 pm12 cd12 ct12 : Value}
    (a12 : PySem.W.nsIn K mainGlobals "_law_reached" = some (some (.ref f12)))
    (l12 : K.lookup f12 = some ⟨oc12, od12, .func (PySem.W.fnOf "_law_reached" "_law_reached" (defArgs s_law_reached) (defBody s_law_reached) (defScope s_law_reached) .none kV12 dc12 pm12 an12 cd12 ct12), sl12⟩)
    (c12 : PySem.W.codeIn K cd12 "_law_reached" = true)
    (k12 : PySem.W.keepIn K (.ref f12) = true)
    {f13 : Addr} {od13 an13 : Option Addr} {sl13 : Array (Option Value)} {oc13 kV13 dc13 pm13 cd13 ct13 : Value}
    (a13 : PySem.W.nsIn K mainGlobals "_law_words" = some (some (.ref f13)))
    (l13 : K.lookup f13 = some ⟨oc13, od13, .func (PySem.W.fnOf "_law_words" "_law_words" (defArgs s_law_words) (defBody s_law_words) (defScope s_law_words) .none kV13 dc13 pm13 an13 cd13 ct13), sl13⟩)
    (c13 : PySem.W.codeIn K cd13 "_law_words" = true)
    (k13 : PySem.W.keepIn K (.ref f13) = true)
    {f14 : Addr} {od14 an14 : Option Addr} {sl14 : Array (Option Value)} {oc14 kV14 dc14 pm14 cd14 ct14 : Value}
    (a14 : PySem.W.findIn K (.ref C_Folk) "put" = some (some (.ref f14)))
    (n14 : PySem.W.isFn K (.ref f14) = true)
    (l14 : K.lookup f14 = some ⟨oc14, od14, .func (PySem.W.fnOf "put" "Folk.put" (defArgs s_Folk_put) (defBody s_Folk_put) (defScope s_Folk_put) .none kV14 dc14 pm14 an14 cd14 ct14), sl14⟩)
    (c14 : PySem.W.codeIn K cd14 "Folk.put" = true)
    (k14 : PySem.W.keepIn K (.ref f14) = true)
    {f15 : Addr} {od15 an15 : Option Addr} {sl15 : Array (Option Value)} {oc15 kV15 dc15 pm15 cd15 ct15 : Value}
    (a15 : PySem.W.findIn K (.ref C_Folk) "take" = some (some (.ref f15)))
    (n15 : PySem.W.isFn K (.ref f15) = true)
    (l15 : K.lookup f15 = some ⟨oc15, od15, .func (PySem.W.fnOf "take" "Folk.take" (defArgs s_Folk_take) (defBody s_Folk_take) (defScope s_Folk_take) .none kV15 dc15 pm15 an15 cd15 ct15), sl15⟩)
    (c15 : PySem.W.codeIn K cd15 "Folk.take" = true)
    (k15 : PySem.W.keepIn K (.ref f15) = true)
    {f16 : Addr} {od16 an16 : Option Addr} {sl16 : Array (Option Value)} {oc16 kV16 dc16 pm16 cd16 ct16 : Value}
    (a16 : PySem.W.findIn K (.ref C_Folk) "__init__" = some (some (.ref f16)))
    (n16 : PySem.W.isFn K (.ref f16) = true)
    (l16 : K.lookup f16 = some ⟨oc16, od16, .func (PySem.W.fnOf "__init__" "Folk.__init__" (defArgs s_Folk___init__) (defBody s_Folk___init__) (defScope s_Folk___init__) .none kV16 dc16 pm16 an16 cd16 ct16), sl16⟩)
    (c16 : PySem.W.codeIn K cd16 "Folk.__init__" = true)
    (k16 : PySem.W.keepIn K (.ref f16) = true)
    {f17 : Addr} {od17 an17 : Option Addr} {sl17 : Array (Option Value)} {oc17 kV17 dc17 pm17 cd17 ct17 : Value}
    (a17 : PySem.W.nsIn K mainGlobals "_law_kinds" = some (some (.ref f17)))
    (l17 : K.lookup f17 = some ⟨oc17, od17, .func (PySem.W.fnOf "_law_kinds" "_law_kinds" (defArgs s_law_kinds) (defBody s_law_kinds) (defScope s_law_kinds) .none kV17 dc17 pm17 an17 cd17 ct17), sl17⟩)
    (c17 : PySem.W.codeIn K cd17 "_law_kinds" = true)
    (k17 : PySem.W.keepIn K (.ref f17) = true)
    {f18 : Addr} {od18 an18 : Option Addr} {sl18 : Array (Option Value)} {oc18 kV18 dc18 pm18 cd18 ct18 : Value}
    (a18 : PySem.W.nsIn K mainGlobals "_law_odd" = some (some (.ref f18)))
    (l18 : K.lookup f18 = some ⟨oc18, od18, .func (PySem.W.fnOf "_law_odd" "_law_odd" (defArgs s_law_odd) (defBody s_law_odd) (defScope s_law_odd) .none kV18 dc18 pm18 an18 cd18 ct18), sl18⟩)
    (c18 : PySem.W.codeIn K cd18 "_law_odd" = true)
    (k18 : PySem.W.keepIn K (.ref f18) = true)
    {f19 : Addr} {od19 an19 : Option Addr} {sl19 : Array (Option Value)} {oc19 kV19 dc19 pm19 cd19 ct19 : Value}
    (a19 : PySem.W.nsIn K mainGlobals "_law_thing" = some (some (.ref f19)))
    (l19 : K.lookup f19 = some ⟨oc19, od19, .func (PySem.W.fnOf "_law_thing" "_law_thing" (defArgs s_law_thing) (defBody s_law_thing) (defScope s_law_thing) .none kV19 dc19 pm19 an19 cd19 ct19), sl19⟩)
    (c19 : PySem.W.codeIn K cd19 "_law_thing" = true)
    (k19 : PySem.W.keepIn K (.ref f19) = true)
    {f20 : Addr} {od20 an20 : Option Addr} {sl20 : Array (Option Value)} {oc20 kV20 dc20 pm20 cd20 ct20 : Value}
    (a20 : PySem.W.nsIn K mainGlobals "_law_put_due" = some (some (.ref f20)))
    (l20 : K.lookup f20 = some ⟨oc20, od20, .func (PySem.W.fnOf "_law_put_due" "_law_put_due" (defArgs s_law_put_due) (defBody s_law_put_due) (defScope s_law_put_due) .none kV20 dc20 pm20 an20 cd20 ct20), sl20⟩)
    (c20 : PySem.W.codeIn K cd20 "_law_put_due" = true)
    (k20 : PySem.W.keepIn K (.ref f20) = true)
    {f21 : Addr} {od21 an21 : Option Addr} {sl21 : Array (Option Value)} {oc21 kV21 dc21 pm21 cd21 ct21 : Value}
    (a21 : PySem.W.nsIn K mainGlobals "_law_take_due" = some (some (.ref f21)))
    (l21 : K.lookup f21 = some ⟨oc21, od21, .func (PySem.W.fnOf "_law_take_due" "_law_take_due" (defArgs s_law_take_due) (defBody s_law_take_due) (defScope s_law_take_due) .none kV21 dc21 pm21 an21 cd21 ct21), sl21⟩)
    (c21 : PySem.W.codeIn K cd21 "_law_take_due" = true)
    (k21 : PySem.W.keepIn K (.ref f21) = true)
    {f22 : Addr} {od22 an22 : Option Addr} {sl22 : Array (Option Value)} {oc22 kV22 dc22 pm22 cd22 ct22 : Value}
    (a22 : PySem.W.nsIn K mainGlobals "_law_stands" = some (some (.ref f22)))
    (l22 : K.lookup f22 = some ⟨oc22, od22, .func (PySem.W.fnOf "_law_stands" "_law_stands" (defArgs s_law_stands) (defBody s_law_stands) (defScope s_law_stands) .none kV22 dc22 pm22 an22 cd22 ct22), sl22⟩)
    (c22 : PySem.W.codeIn K cd22 "_law_stands" = true)
    (k22 : PySem.W.keepIn K (.ref f22) = true)
    {f23 : Addr} {od23 an23 : Option Addr} {sl23 : Array (Option Value)} {oc23 kV23 dc23 pm23 cd23 ct23 : Value}
    (a23 : PySem.W.nsIn K mainGlobals "_law_tried" = some (some (.ref f23)))
    (l23 : K.lookup f23 = some ⟨oc23, od23, .func (PySem.W.fnOf "_law_tried" "_law_tried" (defArgs s_law_tried) (defBody s_law_tried) (defScope s_law_tried) .none kV23 dc23 pm23 an23 cd23 ct23), sl23⟩)
    (c23 : PySem.W.codeIn K cd23 "_law_tried" = true)
    (k23 : PySem.W.keepIn K (.ref f23) = true)
    {f24 : Addr} {od24 an24 : Option Addr} {sl24 : Array (Option Value)} {oc24 kV24 dc24 pm24 cd24 ct24 : Value}
    (a24 : PySem.W.nsIn K mainGlobals "_law_done" = some (some (.ref f24)))
    (l24 : K.lookup f24 = some ⟨oc24, od24, .func (PySem.W.fnOf "_law_done" "_law_done" (defArgs s_law_done) (defBody s_law_done) (defScope s_law_done) .none kV24 dc24 pm24 an24 cd24 ct24), sl24⟩)
    (c24 : PySem.W.codeIn K cd24 "_law_done" = true)
    (k24 : PySem.W.keepIn K (.ref f24) = true)
    {f25 : Addr} {od25 an25 : Option Addr} {sl25 : Array (Option Value)} {oc25 kV25 dc25 pm25 cd25 ct25 : Value}
    (a25 : PySem.W.nsIn K mainGlobals "_law_asked" = some (some (.ref f25)))
    (l25 : K.lookup f25 = some ⟨oc25, od25, .func (PySem.W.fnOf "_law_asked" "_law_asked" (defArgs s_law_asked) (defBody s_law_asked) (defScope s_law_asked) .none kV25 dc25 pm25 an25 cd25 ct25), sl25⟩)
    (c25 : PySem.W.codeIn K cd25 "_law_asked" = true)
    (k25 : PySem.W.keepIn K (.ref f25) = true)
    {f26 : Addr} {od26 an26 : Option Addr} {sl26 : Array (Option Value)} {oc26 kV26 dc26 pm26 cd26 ct26 : Value}
    (a26 : PySem.W.nsIn K mainGlobals "law" = some (some (.ref f26)))
    (l26 : K.lookup f26 = some ⟨oc26, od26, .func (PySem.W.fnOf "law" "law" (defArgs s_law) (defBody s_law) (defScope s_law) .none kV26 dc26 pm26 an26 cd26 ct26), sl26⟩)
    (c26 : PySem.W.codeIn K cd26 "law" = true)
    (k26 : PySem.W.keepIn K (.ref f26) = true)
    (z_ValueError : PySem.W.nsIn K mainGlobals "ValueError" = some none)
    (z_enumerate : PySem.W.nsIn K mainGlobals "enumerate" = some none)
    (z_int : PySem.W.nsIn K mainGlobals "int" = some none)
    (z_isinstance : PySem.W.nsIn K mainGlobals "isinstance" = some none)
    (z_len : PySem.W.nsIn K mainGlobals "len" = some none)
    (z_list : PySem.W.nsIn K mainGlobals "list" = some none)
    (z_min : PySem.W.nsIn K mainGlobals "min" = some none)
    (z_range : PySem.W.nsIn K mainGlobals "range" = some none)
    (z_sorted : PySem.W.nsIn K mainGlobals "sorted" = some none)
    (z_str : PySem.W.nsIn K mainGlobals "str" = some none)
    (z_tuple : PySem.W.nsIn K mainGlobals "tuple" = some none)
    {t_LONGEST_NAME : Tok}
    (q_LONGEST_NAME : PySem.W.nsIn K mainGlobals "LONGEST_NAME" = some (some (.int 8 t_LONGEST_NAME)))
    {C_BadAsking : Addr}
    (e_BadAsking : PySem.W.nsIn K mainGlobals "BadAsking" = some (some (.ref C_BadAsking)))
    {C_BadSet : Addr}
    (e_BadSet : PySem.W.nsIn K mainGlobals "BadSet" = some (some (.ref C_BadSet)))
    {C_BadText : Addr}
    (e_BadText : PySem.W.nsIn K mainGlobals "BadText" = some (some (.ref C_BadText)))
    {C_BadValue : Addr}
    (e_BadValue : PySem.W.nsIn K mainGlobals "BadValue" = some (some (.ref C_BadValue)))
    {C_BadWish : Addr}
    (e_BadWish : PySem.W.nsIn K mainGlobals "BadWish" = some (some (.ref C_BadWish)))
    {C_GateError : Addr}
    (e_GateError : PySem.W.nsIn K mainGlobals "GateError" = some (some (.ref C_GateError)))
    {C_InUse : Addr}
    (e_InUse : PySem.W.nsIn K mainGlobals "InUse" = some (some (.ref C_InUse)))
    {C_NoGate : Addr}
    (e_NoGate : PySem.W.nsIn K mainGlobals "NoGate" = some (some (.ref C_NoGate)))
    {C_NoName : Addr}
    (e_NoName : PySem.W.nsIn K mainGlobals "NoName" = some (some (.ref C_NoName)))
    {C_NoRule : Addr}
    (e_NoRule : PySem.W.nsIn K mainGlobals "NoRule" = some (some (.ref C_NoRule)))
    {C_NoVersion : Addr}
    (e_NoVersion : PySem.W.nsIn K mainGlobals "NoVersion" = some (some (.ref C_NoVersion)))
    {C_Ring : Addr}
    (e_Ring : PySem.W.nsIn K mainGlobals "Ring" = some (some (.ref C_Ring)))
    {C_TooMuch : Addr}
    (e_TooMuch : PySem.W.nsIn K mainGlobals "TooMuch" = some (some (.ref C_TooMuch)))
    (x_NoName : PySem.W.excIn K C_NoName [.type "ValueError", .type "Exception", .type "BaseException", .type "object"] "ValueError.__new__" = true)
    (k_NoName : PySem.W.keepIn K (.ref C_NoName) = true)
    (b_NoName : PySem.W.subIn K (.ref C_NoName) (.type "BaseException") = some true)
    (t_NoName : PySem.W.typeIn K (.ref C_NoName) = some (.type "type"))
    (x_Ring : PySem.W.excIn K C_Ring [.type "ValueError", .type "Exception", .type "BaseException", .type "object"] "ValueError.__new__" = true)
    (k_Ring : PySem.W.keepIn K (.ref C_Ring) = true)
    (b_Ring : PySem.W.subIn K (.ref C_Ring) (.type "BaseException") = some true)
    (t_Ring : PySem.W.typeIn K (.ref C_Ring) = some (.type "type"))
    (hg_NoName : PySem.W.findIn K (.ref C_NoName) "__getattribute__" = some (some (.builtin "BaseException.__getattribute__")))
    (hk_NoName : PySem.W.findIn K (.ref C_NoName) "__getattr__" = some none)
    (hdx_NoName : PySem.W.hasDictIn K C_NoName = true)
    (ha_NoName : PySem.W.findIn K (.ref C_NoName) "__class__" = some (some (.builtin "object.__class__")))
    (hm_NoName : PySem.W.mroIn K C_NoName (.type "object") = some true)
    (hg_Ring : PySem.W.findIn K (.ref C_Ring) "__getattribute__" = some (some (.builtin "BaseException.__getattribute__")))
    (hk_Ring : PySem.W.findIn K (.ref C_Ring) "__getattr__" = some none)
    (hdx_Ring : PySem.W.hasDictIn K C_Ring = true)
    (ha_Ring : PySem.W.findIn K (.ref C_Ring) "__class__" = some (some (.builtin "object.__class__")))
    (hm_Ring : PySem.W.mroIn K C_Ring (.type "object") = some true)
    (su_NoName_BadAsking : PySem.W.subIn K (.ref C_NoName) (.ref C_BadAsking) = some false)
    (ne_NoName_BadAsking : (Value.ref C_NoName == Value.ref C_BadAsking) = false)
    (su_NoName_BadSet : PySem.W.subIn K (.ref C_NoName) (.ref C_BadSet) = some false)
    (ne_NoName_BadSet : (Value.ref C_NoName == Value.ref C_BadSet) = false)
    (su_NoName_BadText : PySem.W.subIn K (.ref C_NoName) (.ref C_BadText) = some false)
    (ne_NoName_BadText : (Value.ref C_NoName == Value.ref C_BadText) = false)
    (su_NoName_BadValue : PySem.W.subIn K (.ref C_NoName) (.ref C_BadValue) = some false)
    (ne_NoName_BadValue : (Value.ref C_NoName == Value.ref C_BadValue) = false)
    (su_NoName_BadWish : PySem.W.subIn K (.ref C_NoName) (.ref C_BadWish) = some false)
    (ne_NoName_BadWish : (Value.ref C_NoName == Value.ref C_BadWish) = false)
    (su_NoName_GateError : PySem.W.subIn K (.ref C_NoName) (.ref C_GateError) = some true)
    (ne_NoName_GateError : (Value.ref C_NoName == Value.ref C_GateError) = false)
    (su_NoName_InUse : PySem.W.subIn K (.ref C_NoName) (.ref C_InUse) = some false)
    (ne_NoName_InUse : (Value.ref C_NoName == Value.ref C_InUse) = false)
    (su_NoName_NoGate : PySem.W.subIn K (.ref C_NoName) (.ref C_NoGate) = some false)
    (ne_NoName_NoGate : (Value.ref C_NoName == Value.ref C_NoGate) = false)
    (su_NoName_NoName : PySem.W.subIn K (.ref C_NoName) (.ref C_NoName) = some true)
    (su_NoName_NoRule : PySem.W.subIn K (.ref C_NoName) (.ref C_NoRule) = some false)
    (ne_NoName_NoRule : (Value.ref C_NoName == Value.ref C_NoRule) = false)
    (su_NoName_NoVersion : PySem.W.subIn K (.ref C_NoName) (.ref C_NoVersion) = some false)
    (ne_NoName_NoVersion : (Value.ref C_NoName == Value.ref C_NoVersion) = false)
    (su_NoName_Ring : PySem.W.subIn K (.ref C_NoName) (.ref C_Ring) = some false)
    (ne_NoName_Ring : (Value.ref C_NoName == Value.ref C_Ring) = false)
    (su_NoName_TooMuch : PySem.W.subIn K (.ref C_NoName) (.ref C_TooMuch) = some false)
    (ne_NoName_TooMuch : (Value.ref C_NoName == Value.ref C_TooMuch) = false)
    (su_NoName_ValueError : PySem.W.subIn K (.ref C_NoName) (.type "ValueError") = some true)
    (su_Ring_BadAsking : PySem.W.subIn K (.ref C_Ring) (.ref C_BadAsking) = some false)
    (ne_Ring_BadAsking : (Value.ref C_Ring == Value.ref C_BadAsking) = false)
    (su_Ring_BadSet : PySem.W.subIn K (.ref C_Ring) (.ref C_BadSet) = some false)
    (ne_Ring_BadSet : (Value.ref C_Ring == Value.ref C_BadSet) = false)
    (su_Ring_BadText : PySem.W.subIn K (.ref C_Ring) (.ref C_BadText) = some false)
    (ne_Ring_BadText : (Value.ref C_Ring == Value.ref C_BadText) = false)
    (su_Ring_BadValue : PySem.W.subIn K (.ref C_Ring) (.ref C_BadValue) = some false)
    (ne_Ring_BadValue : (Value.ref C_Ring == Value.ref C_BadValue) = false)
    (su_Ring_BadWish : PySem.W.subIn K (.ref C_Ring) (.ref C_BadWish) = some false)
    (ne_Ring_BadWish : (Value.ref C_Ring == Value.ref C_BadWish) = false)
    (su_Ring_GateError : PySem.W.subIn K (.ref C_Ring) (.ref C_GateError) = some true)
    (ne_Ring_GateError : (Value.ref C_Ring == Value.ref C_GateError) = false)
    (su_Ring_InUse : PySem.W.subIn K (.ref C_Ring) (.ref C_InUse) = some false)
    (ne_Ring_InUse : (Value.ref C_Ring == Value.ref C_InUse) = false)
    (su_Ring_NoGate : PySem.W.subIn K (.ref C_Ring) (.ref C_NoGate) = some false)
    (ne_Ring_NoGate : (Value.ref C_Ring == Value.ref C_NoGate) = false)
    (su_Ring_NoName : PySem.W.subIn K (.ref C_Ring) (.ref C_NoName) = some false)
    (ne_Ring_NoName : (Value.ref C_Ring == Value.ref C_NoName) = false)
    (su_Ring_NoRule : PySem.W.subIn K (.ref C_Ring) (.ref C_NoRule) = some false)
    (ne_Ring_NoRule : (Value.ref C_Ring == Value.ref C_NoRule) = false)
    (su_Ring_NoVersion : PySem.W.subIn K (.ref C_Ring) (.ref C_NoVersion) = some false)
    (ne_Ring_NoVersion : (Value.ref C_Ring == Value.ref C_NoVersion) = false)
    (su_Ring_Ring : PySem.W.subIn K (.ref C_Ring) (.ref C_Ring) = some true)
    (su_Ring_TooMuch : PySem.W.subIn K (.ref C_Ring) (.ref C_TooMuch) = some false)
    (ne_Ring_TooMuch : (Value.ref C_Ring == Value.ref C_TooMuch) = false)
    (su_Ring_ValueError : PySem.W.subIn K (.ref C_Ring) (.type "ValueError") = some true)
    (dq_BadAsking : PySem.W.hasDictIn K C_BadAsking = true)
    (tq_BadAsking : PySem.W.typeIn K (.ref C_BadAsking) = some (.type "type"))
    (bq_BadAsking : PySem.W.subIn K (.ref C_BadAsking) (.type "BaseException") = some true)
    (dq_BadSet : PySem.W.hasDictIn K C_BadSet = true)
    (tq_BadSet : PySem.W.typeIn K (.ref C_BadSet) = some (.type "type"))
    (bq_BadSet : PySem.W.subIn K (.ref C_BadSet) (.type "BaseException") = some true)
    (dq_BadText : PySem.W.hasDictIn K C_BadText = true)
    (tq_BadText : PySem.W.typeIn K (.ref C_BadText) = some (.type "type"))
    (bq_BadText : PySem.W.subIn K (.ref C_BadText) (.type "BaseException") = some true)
    (dq_BadValue : PySem.W.hasDictIn K C_BadValue = true)
    (tq_BadValue : PySem.W.typeIn K (.ref C_BadValue) = some (.type "type"))
    (bq_BadValue : PySem.W.subIn K (.ref C_BadValue) (.type "BaseException") = some true)
    (dq_BadWish : PySem.W.hasDictIn K C_BadWish = true)
    (tq_BadWish : PySem.W.typeIn K (.ref C_BadWish) = some (.type "type"))
    (bq_BadWish : PySem.W.subIn K (.ref C_BadWish) (.type "BaseException") = some true)
    (dq_GateError : PySem.W.hasDictIn K C_GateError = true)
    (tq_GateError : PySem.W.typeIn K (.ref C_GateError) = some (.type "type"))
    (bq_GateError : PySem.W.subIn K (.ref C_GateError) (.type "BaseException") = some true)
    (dq_InUse : PySem.W.hasDictIn K C_InUse = true)
    (tq_InUse : PySem.W.typeIn K (.ref C_InUse) = some (.type "type"))
    (bq_InUse : PySem.W.subIn K (.ref C_InUse) (.type "BaseException") = some true)
    (dq_NoGate : PySem.W.hasDictIn K C_NoGate = true)
    (tq_NoGate : PySem.W.typeIn K (.ref C_NoGate) = some (.type "type"))
    (bq_NoGate : PySem.W.subIn K (.ref C_NoGate) (.type "BaseException") = some true)
    (dq_NoName : PySem.W.hasDictIn K C_NoName = true)
    (tq_NoName : PySem.W.typeIn K (.ref C_NoName) = some (.type "type"))
    (bq_NoName : PySem.W.subIn K (.ref C_NoName) (.type "BaseException") = some true)
    (dq_NoRule : PySem.W.hasDictIn K C_NoRule = true)
    (tq_NoRule : PySem.W.typeIn K (.ref C_NoRule) = some (.type "type"))
    (bq_NoRule : PySem.W.subIn K (.ref C_NoRule) (.type "BaseException") = some true)
    (dq_NoVersion : PySem.W.hasDictIn K C_NoVersion = true)
    (tq_NoVersion : PySem.W.typeIn K (.ref C_NoVersion) = some (.type "type"))
    (bq_NoVersion : PySem.W.subIn K (.ref C_NoVersion) (.type "BaseException") = some true)
    (dq_Ring : PySem.W.hasDictIn K C_Ring = true)
    (tq_Ring : PySem.W.typeIn K (.ref C_Ring) = some (.type "type"))
    (bq_Ring : PySem.W.subIn K (.ref C_Ring) (.type "BaseException") = some true)
    (dq_TooMuch : PySem.W.hasDictIn K C_TooMuch = true)
    (tq_TooMuch : PySem.W.typeIn K (.ref C_TooMuch) = some (.type "type"))
    (bq_TooMuch : PySem.W.subIn K (.ref C_TooMuch) (.type "BaseException") = some true)
    (hn_ : PySem.W.specialIn K (.builtin "object.__class__") "__get__" = some (some (.builtin "getset_descriptor.__get__")))
    (ht_ : PySem.W.takesIn K (.builtin "object.__class__") = some true)
    : exists fd : FuncData, (forall (s : Shared) (v : Value), BindsTo s fd ⟨[v], []⟩ [("_law_script", v)]) ∧ forall base : Heap, K.In base → base.Ns mainGlobals mg → FnOk l.prog w K mg base CX0 8 fa fd ["_law_script"] (spLaw K) := by
  have e := hfa.symm.trans (PySem.W.mg_of X G a26)
  cases e
  have F0 := fun_mk (st := s_is_name) l0 c0 k0
  have F1 := fun_mk (st := s_Folk_people) l1 c1 k1
  have F2 := fun_mk (st := s_Folk_groups) l2 c2 k2
  have F3 := fun_mk (st := s_Folk_is_group) l3 c3 k3
  have F4 := fun_mk (st := s_Folk_straight) l4 c4 k4
  have F5 := fun_mk (st := s_Folk_has_word) l5 c5 k5
  have F6 := fun_mk (st := s_Folk_need_word) l6 c6 k6
  have F7 := fun_mk (st := s_Folk_in_it) l7 c7 k7
  have F8 := fun_mk (st := s_Folk_groups_of) l8 c8 k8
  have F9 := fun_mk (st := s_law_cell_at) l9 c9 k9
  have F10 := fun_mk (st := s_law_mixed) l10 c10 k10
  have F11 := fun_mk (st := s_law_names) l11 c11 k11
  have F12 := fun_mk (st := s_law_reached) l12 c12 k12
  have F13 := fun_mk (st := s_law_words) l13 c13 k13
  have F14 := fun_mk (st := s_Folk_put) l14 c14 k14
  have F15 := fun_mk (st := s_Folk_take) l15 c15 k15
  have F16 := fun_mk (st := s_Folk___init__) l16 c16 k16
  have F17 := fun_mk (st := s_law_kinds) l17 c17 k17
  have F18 := fun_mk (st := s_law_odd) l18 c18 k18
  have F19 := fun_mk (st := s_law_thing) l19 c19 k19
  have F20 := fun_mk (st := s_law_put_due) l20 c20 k20
  have F21 := fun_mk (st := s_law_take_due) l21 c21 k21
  have F22 := fun_mk (st := s_law_stands) l22 c22 k22
  have F23 := fun_mk (st := s_law_tried) l23 c23 k23
  have F24 := fun_mk (st := s_law_done) l24 c24 k24
  have F25 := fun_mk (st := s_law_asked) l25 c25 k25
  have F26 := fun_mk (st := s_law) l26 c26 k26
  have b0 := F0.binds (ps := ["thing"]) fun _ _ _ _ _ _ us hl => match us, hl with | [_], _ => rfl
  have b1 := F1.binds (ps := ["self"]) fun _ _ _ _ _ _ us hl => match us, hl with | [_], _ => rfl
  have b2 := F2.binds (ps := ["self"]) fun _ _ _ _ _ _ us hl => match us, hl with | [_], _ => rfl
  have b3 := F3.binds (ps := ["self", "word"]) fun _ _ _ _ _ _ us hl => match us, hl with | [_, _], _ => rfl
  have b4 := F4.binds (ps := ["self", "group"]) fun _ _ _ _ _ _ us hl => match us, hl with | [_, _], _ => rfl
  have b5 := F5.binds (ps := ["self", "word"]) fun _ _ _ _ _ _ us hl => match us, hl with | [_, _], _ => rfl
  have b6 := F6.binds (ps := ["self", "word"]) fun _ _ _ _ _ _ us hl => match us, hl with | [_, _], _ => rfl
  have b7 := F7.binds (ps := ["self", "word"]) fun _ _ _ _ _ _ us hl => match us, hl with | [_, _], _ => rfl
  have b8 := F8.binds (ps := ["self", "word"]) fun _ _ _ _ _ _ us hl => match us, hl with | [_, _], _ => rfl
  have b9 := F9.binds (ps := ["_law_script", "_law_k"]) fun _ _ _ _ _ _ us hl => match us, hl with | [_, _], _ => rfl
  have b10 := F10.binds (ps := ["_law_cell", "_law_k"]) fun _ _ _ _ _ _ us hl => match us, hl with | [_, _], _ => rfl
  have b11 := F11.binds (ps := ["_law_cell", "_law_many"]) fun _ _ _ _ _ _ us hl => match us, hl with | [_, _], _ => rfl
  have b12 := F12.binds (ps := ["_law_rows", "_law_word"]) fun _ _ _ _ _ _ us hl => match us, hl with | [_, _], _ => rfl
  have b13 := F13.binds (ps := ["_law_script"]) fun _ _ _ _ _ _ us hl => match us, hl with | [_], _ => rfl
  have b14 := F14.binds (ps := ["self", "group", "member"]) fun _ _ _ _ _ _ us hl => match us, hl with | [_, _, _], _ => rfl
  have b15 := F15.binds (ps := ["self", "group", "member"]) fun _ _ _ _ _ _ us hl => match us, hl with | [_, _, _], _ => rfl
  have b16 := F16.binds (ps := ["self", "people"]) fun _ _ _ _ _ _ us hl => match us, hl with | [_, _], _ => rfl
  have b17 := F17.binds (ps := ["_law_e"]) fun _ _ _ _ _ _ us hl => match us, hl with | [_], _ => rfl
  have b18 := F18.binds (ps := ["_law_mixed_here", "_law_people"]) fun _ _ _ _ _ _ us hl => match us, hl with | [_, _], _ => rfl
  have b19 := F19.binds (ps := ["_law_mixed_here", "_law_people", "_law_groups"]) fun _ _ _ _ _ _ us hl => match us, hl with | [_, _, _], _ => rfl
  have b20 := F20.binds (ps := ["_law_rows", "_law_people", "_law_group", "_law_member"]) fun _ _ _ _ _ _ us hl => match us, hl with | [_, _, _, _], _ => rfl
  have b21 := F21.binds (ps := ["_law_rows", "_law_group", "_law_member"]) fun _ _ _ _ _ _ us hl => match us, hl with | [_, _, _], _ => rfl
  have b22 := F22.binds (ps := ["_law_folk", "_law_rows"]) fun _ _ _ _ _ _ us hl => match us, hl with | [_, _], _ => rfl
  have b23 := F23.binds (ps := ["_law_folk", "_law_deed", "_law_thing_here", "_law_other"]) fun _ _ _ _ _ _ us hl => match us, hl with | [_, _, _, _], _ => rfl
  have b24 := F24.binds (ps := ["_law_folk", "_law_rows", "_law_people", "_law_groups", "_law_mixed_here", "_law_more"]) fun _ _ _ _ _ _ us hl => match us, hl with | [_, _, _, _, _, _], _ => rfl
  have b25 := F25.binds (ps := ["_law_folk", "_law_rows", "_law_people", "_law_groups", "_law_mixed_here"]) fun _ _ _ _ _ _ us hl => match us, hl with | [_, _, _, _, _], _ => rfl
  have b26 := F26.binds (ps := ["_law_script"]) fun _ _ _ _ _ _ us hl => match us, hl with | [_], _ => rfl
  let T : Txt K mg := { c_Folk := C_Folk, g_Folk := PySem.W.mg_of X G e_Folk, i_Folk := e_Folk, cl_Folk := ⟨pg_Folk, hd_Folk, po_Folk, sa_Folk⟩, na_Folk_members := na_Folk_members, na_Folk_names := na_Folk_names, a_is_name := f0, d_is_name := _, F_is_name := F0, b_is_name := b0, g_is_name := PySem.W.mg_of X G a0, a_Folk_people := f1, d_Folk_people := _, F_Folk_people := F1, b_Folk_people := b1, M_Folk_people := ⟨a1, n1, k1⟩, a_Folk_groups := f2, d_Folk_groups := _, F_Folk_groups := F2, b_Folk_groups := b2, M_Folk_groups := ⟨a2, n2, k2⟩, a_Folk_is_group := f3, d_Folk_is_group := _, F_Folk_is_group := F3, b_Folk_is_group := b3, M_Folk_is_group := ⟨a3, n3, k3⟩, a_Folk_straight := f4, d_Folk_straight := _, F_Folk_straight := F4, b_Folk_straight := b4, M_Folk_straight := ⟨a4, n4, k4⟩, a_Folk_has_word := f5, d_Folk_has_word := _, F_Folk_has_word := F5, b_Folk_has_word := b5, M_Folk_has_word := ⟨a5, n5, k5⟩, a_Folk_need_word := f6, d_Folk_need_word := _, F_Folk_need_word := F6, b_Folk_need_word := b6, M_Folk_need_word := ⟨a6, n6, k6⟩, a_Folk_in_it := f7, d_Folk_in_it := _, F_Folk_in_it := F7, b_Folk_in_it := b7, M_Folk_in_it := ⟨a7, n7, k7⟩, a_Folk_groups_of := f8, d_Folk_groups_of := _, F_Folk_groups_of := F8, b_Folk_groups_of := b8, M_Folk_groups_of := ⟨a8, n8, k8⟩, a_law_cell_at := f9, d_law_cell_at := _, F_law_cell_at := F9, b_law_cell_at := b9, g_law_cell_at := PySem.W.mg_of X G a9, a_law_mixed := f10, d_law_mixed := _, F_law_mixed := F10, b_law_mixed := b10, g_law_mixed := PySem.W.mg_of X G a10, a_law_names := f11, d_law_names := _, F_law_names := F11, b_law_names := b11, g_law_names := PySem.W.mg_of X G a11, a_law_reached := f12, d_law_reached := _, F_law_reached := F12, b_law_reached := b12, g_law_reached := PySem.W.mg_of X G a12, a_law_words := f13, d_law_words := _, F_law_words := F13, b_law_words := b13, g_law_words := PySem.W.mg_of X G a13, a_Folk_put := f14, d_Folk_put := _, F_Folk_put := F14, b_Folk_put := b14, M_Folk_put := ⟨a14, n14, k14⟩, a_Folk_take := f15, d_Folk_take := _, F_Folk_take := F15, b_Folk_take := b15, M_Folk_take := ⟨a15, n15, k15⟩, a_Folk___init__ := f16, d_Folk___init__ := _, F_Folk___init__ := F16, b_Folk___init__ := b16, K_Folk := ⟨mk_Folk, a16, n16, ck_Folk⟩, a_law_kinds := f17, d_law_kinds := _, F_law_kinds := F17, b_law_kinds := b17, g_law_kinds := PySem.W.mg_of X G a17, a_law_odd := f18, d_law_odd := _, F_law_odd := F18, b_law_odd := b18, g_law_odd := PySem.W.mg_of X G a18, a_law_thing := f19, d_law_thing := _, F_law_thing := F19, b_law_thing := b19, g_law_thing := PySem.W.mg_of X G a19, a_law_put_due := f20, d_law_put_due := _, F_law_put_due := F20, b_law_put_due := b20, g_law_put_due := PySem.W.mg_of X G a20, a_law_take_due := f21, d_law_take_due := _, F_law_take_due := F21, b_law_take_due := b21, g_law_take_due := PySem.W.mg_of X G a21, a_law_stands := f22, d_law_stands := _, F_law_stands := F22, b_law_stands := b22, g_law_stands := PySem.W.mg_of X G a22, a_law_tried := f23, d_law_tried := _, F_law_tried := F23, b_law_tried := b23, g_law_tried := PySem.W.mg_of X G a23, a_law_done := f24, d_law_done := _, F_law_done := F24, b_law_done := b24, g_law_done := PySem.W.mg_of X G a24, a_law_asked := f25, d_law_asked := _, F_law_asked := F25, b_law_asked := b25, g_law_asked := PySem.W.mg_of X G a25, a_law := fa, d_law := _, F_law := F26, b_law := b26, g_law := PySem.W.mg_of X G a26, n_ValueError := PySem.W.mg_none_of X G z_ValueError, n_enumerate := PySem.W.mg_none_of X G z_enumerate, n_int := PySem.W.mg_none_of X G z_int, n_isinstance := PySem.W.mg_none_of X G z_isinstance, n_len := PySem.W.mg_none_of X G z_len, n_list := PySem.W.mg_none_of X G z_list, n_min := PySem.W.mg_none_of X G z_min, n_range := PySem.W.mg_none_of X G z_range, n_sorted := PySem.W.mg_none_of X G z_sorted, n_str := PySem.W.mg_none_of X G z_str, n_tuple := PySem.W.mg_none_of X G z_tuple, u_LONGEST_NAME := _, m_LONGEST_NAME := PySem.W.mg_of X G q_LONGEST_NAME, v_LONGEST_NAME := ⟨_, rfl⟩, c_BadAsking := C_BadAsking, g_BadAsking := PySem.W.mg_of X G e_BadAsking, i_BadAsking := e_BadAsking, c_BadSet := C_BadSet, g_BadSet := PySem.W.mg_of X G e_BadSet, i_BadSet := e_BadSet, c_BadText := C_BadText, g_BadText := PySem.W.mg_of X G e_BadText, i_BadText := e_BadText, c_BadValue := C_BadValue, g_BadValue := PySem.W.mg_of X G e_BadValue, i_BadValue := e_BadValue, c_BadWish := C_BadWish, g_BadWish := PySem.W.mg_of X G e_BadWish, i_BadWish := e_BadWish, c_GateError := C_GateError, g_GateError := PySem.W.mg_of X G e_GateError, i_GateError := e_GateError, c_InUse := C_InUse, g_InUse := PySem.W.mg_of X G e_InUse, i_InUse := e_InUse, c_NoGate := C_NoGate, g_NoGate := PySem.W.mg_of X G e_NoGate, i_NoGate := e_NoGate, c_NoName := C_NoName, g_NoName := PySem.W.mg_of X G e_NoName, i_NoName := e_NoName, c_NoRule := C_NoRule, g_NoRule := PySem.W.mg_of X G e_NoRule, i_NoRule := e_NoRule, c_NoVersion := C_NoVersion, g_NoVersion := PySem.W.mg_of X G e_NoVersion, i_NoVersion := e_NoVersion, c_Ring := C_Ring, g_Ring := PySem.W.mg_of X G e_Ring, i_Ring := e_Ring, c_TooMuch := C_TooMuch, g_TooMuch := PySem.W.mg_of X G e_TooMuch, i_TooMuch := e_TooMuch, x_NoName := x_NoName, k_NoName := k_NoName, b_NoName := b_NoName, t_NoName := t_NoName, x_Ring := x_Ring, k_Ring := k_Ring, b_Ring := b_Ring, t_Ring := t_Ring, xm_GateError := fun c hc C iC => (by rcases List.mem_cons.mp hc with rfl | hc; (cases isC.uniq e_NoName iC; exact PySem.W.exm_ref bq_GateError dq_GateError tq_GateError su_NoName_GateError); rcases List.mem_cons.mp hc with rfl | hc; (cases isC.uniq e_Ring iC; exact PySem.W.exm_ref bq_GateError dq_GateError tq_GateError su_Ring_GateError); exact absurd hc List.not_mem_nil), ki_BadAsking := fun c hc C iC => (by rcases List.mem_cons.mp hc with rfl | hc; (cases isC.uniq e_NoName iC; exact ⟨⟨hg_NoName, hk_NoName, b_NoName, hdx_NoName, ha_NoName, hn_, ht_, hm_NoName⟩, kit_own ne_NoName_BadAsking dq_BadAsking tq_BadAsking su_NoName_BadAsking⟩); rcases List.mem_cons.mp hc with rfl | hc; (cases isC.uniq e_Ring iC; exact ⟨⟨hg_Ring, hk_Ring, b_Ring, hdx_Ring, ha_Ring, hn_, ht_, hm_Ring⟩, kit_own ne_Ring_BadAsking dq_BadAsking tq_BadAsking su_Ring_BadAsking⟩); exact absurd hc List.not_mem_nil), ki_BadSet := fun c hc C iC => (by rcases List.mem_cons.mp hc with rfl | hc; (cases isC.uniq e_NoName iC; exact ⟨⟨hg_NoName, hk_NoName, b_NoName, hdx_NoName, ha_NoName, hn_, ht_, hm_NoName⟩, kit_own ne_NoName_BadSet dq_BadSet tq_BadSet su_NoName_BadSet⟩); rcases List.mem_cons.mp hc with rfl | hc; (cases isC.uniq e_Ring iC; exact ⟨⟨hg_Ring, hk_Ring, b_Ring, hdx_Ring, ha_Ring, hn_, ht_, hm_Ring⟩, kit_own ne_Ring_BadSet dq_BadSet tq_BadSet su_Ring_BadSet⟩); exact absurd hc List.not_mem_nil), ki_BadText := fun c hc C iC => (by rcases List.mem_cons.mp hc with rfl | hc; (cases isC.uniq e_NoName iC; exact ⟨⟨hg_NoName, hk_NoName, b_NoName, hdx_NoName, ha_NoName, hn_, ht_, hm_NoName⟩, kit_own ne_NoName_BadText dq_BadText tq_BadText su_NoName_BadText⟩); rcases List.mem_cons.mp hc with rfl | hc; (cases isC.uniq e_Ring iC; exact ⟨⟨hg_Ring, hk_Ring, b_Ring, hdx_Ring, ha_Ring, hn_, ht_, hm_Ring⟩, kit_own ne_Ring_BadText dq_BadText tq_BadText su_Ring_BadText⟩); exact absurd hc List.not_mem_nil), ki_BadValue := fun c hc C iC => (by rcases List.mem_cons.mp hc with rfl | hc; (cases isC.uniq e_NoName iC; exact ⟨⟨hg_NoName, hk_NoName, b_NoName, hdx_NoName, ha_NoName, hn_, ht_, hm_NoName⟩, kit_own ne_NoName_BadValue dq_BadValue tq_BadValue su_NoName_BadValue⟩); rcases List.mem_cons.mp hc with rfl | hc; (cases isC.uniq e_Ring iC; exact ⟨⟨hg_Ring, hk_Ring, b_Ring, hdx_Ring, ha_Ring, hn_, ht_, hm_Ring⟩, kit_own ne_Ring_BadValue dq_BadValue tq_BadValue su_Ring_BadValue⟩); exact absurd hc List.not_mem_nil), ki_BadWish := fun c hc C iC => (by rcases List.mem_cons.mp hc with rfl | hc; (cases isC.uniq e_NoName iC; exact ⟨⟨hg_NoName, hk_NoName, b_NoName, hdx_NoName, ha_NoName, hn_, ht_, hm_NoName⟩, kit_own ne_NoName_BadWish dq_BadWish tq_BadWish su_NoName_BadWish⟩); rcases List.mem_cons.mp hc with rfl | hc; (cases isC.uniq e_Ring iC; exact ⟨⟨hg_Ring, hk_Ring, b_Ring, hdx_Ring, ha_Ring, hn_, ht_, hm_Ring⟩, kit_own ne_Ring_BadWish dq_BadWish tq_BadWish su_Ring_BadWish⟩); exact absurd hc List.not_mem_nil), ki_InUse := fun c hc C iC => (by rcases List.mem_cons.mp hc with rfl | hc; (cases isC.uniq e_NoName iC; exact ⟨⟨hg_NoName, hk_NoName, b_NoName, hdx_NoName, ha_NoName, hn_, ht_, hm_NoName⟩, kit_own ne_NoName_InUse dq_InUse tq_InUse su_NoName_InUse⟩); rcases List.mem_cons.mp hc with rfl | hc; (cases isC.uniq e_Ring iC; exact ⟨⟨hg_Ring, hk_Ring, b_Ring, hdx_Ring, ha_Ring, hn_, ht_, hm_Ring⟩, kit_own ne_Ring_InUse dq_InUse tq_InUse su_Ring_InUse⟩); exact absurd hc List.not_mem_nil), ki_NoGate := fun c hc C iC => (by rcases List.mem_cons.mp hc with rfl | hc; (cases isC.uniq e_NoName iC; exact ⟨⟨hg_NoName, hk_NoName, b_NoName, hdx_NoName, ha_NoName, hn_, ht_, hm_NoName⟩, kit_own ne_NoName_NoGate dq_NoGate tq_NoGate su_NoName_NoGate⟩); rcases List.mem_cons.mp hc with rfl | hc; (cases isC.uniq e_Ring iC; exact ⟨⟨hg_Ring, hk_Ring, b_Ring, hdx_Ring, ha_Ring, hn_, ht_, hm_Ring⟩, kit_own ne_Ring_NoGate dq_NoGate tq_NoGate su_Ring_NoGate⟩); exact absurd hc List.not_mem_nil), ki_NoName := fun c hc C iC => (by rcases List.mem_cons.mp hc with rfl | hc; (cases isC.uniq e_NoName iC; exact ⟨⟨hg_NoName, hk_NoName, b_NoName, hdx_NoName, ha_NoName, hn_, ht_, hm_NoName⟩, kit_self⟩); rcases List.mem_cons.mp hc with rfl | hc; (cases isC.uniq e_Ring iC; exact ⟨⟨hg_Ring, hk_Ring, b_Ring, hdx_Ring, ha_Ring, hn_, ht_, hm_Ring⟩, kit_own ne_Ring_NoName dq_NoName tq_NoName su_Ring_NoName⟩); exact absurd hc List.not_mem_nil), ki_NoRule := fun c hc C iC => (by rcases List.mem_cons.mp hc with rfl | hc; (cases isC.uniq e_NoName iC; exact ⟨⟨hg_NoName, hk_NoName, b_NoName, hdx_NoName, ha_NoName, hn_, ht_, hm_NoName⟩, kit_own ne_NoName_NoRule dq_NoRule tq_NoRule su_NoName_NoRule⟩); rcases List.mem_cons.mp hc with rfl | hc; (cases isC.uniq e_Ring iC; exact ⟨⟨hg_Ring, hk_Ring, b_Ring, hdx_Ring, ha_Ring, hn_, ht_, hm_Ring⟩, kit_own ne_Ring_NoRule dq_NoRule tq_NoRule su_Ring_NoRule⟩); exact absurd hc List.not_mem_nil), ki_NoVersion := fun c hc C iC => (by rcases List.mem_cons.mp hc with rfl | hc; (cases isC.uniq e_NoName iC; exact ⟨⟨hg_NoName, hk_NoName, b_NoName, hdx_NoName, ha_NoName, hn_, ht_, hm_NoName⟩, kit_own ne_NoName_NoVersion dq_NoVersion tq_NoVersion su_NoName_NoVersion⟩); rcases List.mem_cons.mp hc with rfl | hc; (cases isC.uniq e_Ring iC; exact ⟨⟨hg_Ring, hk_Ring, b_Ring, hdx_Ring, ha_Ring, hn_, ht_, hm_Ring⟩, kit_own ne_Ring_NoVersion dq_NoVersion tq_NoVersion su_Ring_NoVersion⟩); exact absurd hc List.not_mem_nil), ki_Ring := fun c hc C iC => (by rcases List.mem_cons.mp hc with rfl | hc; (cases isC.uniq e_NoName iC; exact ⟨⟨hg_NoName, hk_NoName, b_NoName, hdx_NoName, ha_NoName, hn_, ht_, hm_NoName⟩, kit_own ne_NoName_Ring dq_Ring tq_Ring su_NoName_Ring⟩); rcases List.mem_cons.mp hc with rfl | hc; (cases isC.uniq e_Ring iC; exact ⟨⟨hg_Ring, hk_Ring, b_Ring, hdx_Ring, ha_Ring, hn_, ht_, hm_Ring⟩, kit_self⟩); exact absurd hc List.not_mem_nil), ki_TooMuch := fun c hc C iC => (by rcases List.mem_cons.mp hc with rfl | hc; (cases isC.uniq e_NoName iC; exact ⟨⟨hg_NoName, hk_NoName, b_NoName, hdx_NoName, ha_NoName, hn_, ht_, hm_NoName⟩, kit_own ne_NoName_TooMuch dq_TooMuch tq_TooMuch su_NoName_TooMuch⟩); rcases List.mem_cons.mp hc with rfl | hc; (cases isC.uniq e_Ring iC; exact ⟨⟨hg_Ring, hk_Ring, b_Ring, hdx_Ring, ha_Ring, hn_, ht_, hm_Ring⟩, kit_own ne_Ring_TooMuch dq_TooMuch tq_TooMuch su_Ring_TooMuch⟩); exact absurd hc List.not_mem_nil), ki_ValueError := fun c hc C iC => (by rcases List.mem_cons.mp hc with rfl | hc; (cases isC.uniq e_NoName iC; exact ⟨⟨hg_NoName, hk_NoName, b_NoName, hdx_NoName, ha_NoName, hn_, ht_, hm_NoName⟩, kit_bi (by decide +kernel) su_NoName_ValueError⟩); rcases List.mem_cons.mp hc with rfl | hc; (cases isC.uniq e_Ring iC; exact ⟨⟨hg_Ring, hk_Ring, b_Ring, hdx_Ring, ha_Ring, hn_, ht_, hm_Ring⟩, kit_bi (by decide +kernel) su_Ring_ValueError⟩); exact absurd hc List.not_mem_nil) }
  refine ⟨_, fun s v => .of_eq rfl, fun base _ _ => (ok_law T).imp fun vs H Q E h => ?_⟩
  obtain ⟨a, ns, rfl, hs, hl, q⟩ := h
  refine ⟨true, ⟨.ref a, ⟨ns⟩, rfl, ⟨a, rfl, hs⟩, m_law_true ns hl⟩, fun w H2 _ r => ?_⟩
  rw [show w = .bl true from r]
  exact q H2
end Law
open PySem PySem.W PyProof.Rows
set_option maxRecDepth 100000
set_option maxHeartbeats 0 in
theorem PySem.Challenge.cw_gatewright_k11_groups_refused_then_good_holds : PySem.Challenge.rw_gatewright_k11_groups_refused_then_good.Holds := by
  w_on; o_law; k_head; (case hw => w_witness2)
  k_fill
  refine L2.walk_of (l := PySem.Challenge.rw_gatewright_k11_groups_refused_then_good) (n := 63) (k := 8) (x := "_law_script") (CX := fun _ => L2.CX0) (sp := fun w => Law.spLaw _) rfl (by decide) rfl ⟨rfl, by decide, by decide⟩ (fun w h Y => PySem.W.kIn_of Y) ?F (fun _ _ a ns hl _ hS => ⟨a, ns, rfl, hS, hl, fun _ => rfl⟩) (fun _ _ _ _ _ h => h)
  case F =>
    intro w mg fa h KX G hmg
    refine' Law.all_mk KX G hmg ?e_Folk ?pg_Folk ?hd_Folk ?po_Folk ?sa_Folk ?mk_Folk ?ck_Folk ?na_Folk_members ?na_Folk_names ?a0 ?l0 ?c0 ?k0 ?a1 ?n1 ?l1 ?c1 ?k1 ?a2 ?n2 ?l2 ?c2 ?k2 ?a3 ?n3 ?l3 ?c3 ?k3 ?a4 ?n4 ?l4 ?c4 ?k4 ?a5 ?n5 ?l5 ?c5 ?k5 ?a6 ?n6 ?l6 ?c6 ?k6 ?a7 ?n7 ?l7 ?c7 ?k7 ?a8 ?n8 ?l8 ?c8 ?k8 ?a9 ?l9 ?c9 ?k9 ?a10 ?l10 ?c10 ?k10 ?a11 ?l11 ?c11 ?k11 ?a12 ?l12 ?c12 ?k12 ?a13 ?l13 ?c13 ?k13 ?a14 ?n14 ?l14 ?c14 ?k14 ?a15 ?n15 ?l15 ?c15 ?k15 ?a16 ?n16 ?l16 ?c16 ?k16 ?a17 ?l17 ?c17 ?k17 ?a18 ?l18 ?c18 ?k18 ?a19 ?l19 ?c19 ?k19 ?a20 ?l20 ?c20 ?k20 ?a21 ?l21 ?c21 ?k21 ?a22 ?l22 ?c22 ?k22 ?a23 ?l23 ?c23 ?k23 ?a24 ?l24 ?c24 ?k24 ?a25 ?l25 ?c25 ?k25 ?a26 ?l26 ?c26 ?k26 ?z_ValueError ?z_enumerate ?z_int ?z_isinstance ?z_len ?z_list ?z_min ?z_range ?z_sorted ?z_str ?z_tuple ?q_LONGEST_NAME ?e_BadAsking ?e_BadSet ?e_BadText ?e_BadValue ?e_BadWish ?e_GateError ?e_InUse ?e_NoGate ?e_NoName ?e_NoRule ?e_NoVersion ?e_Ring ?e_TooMuch ?x_NoName ?k_NoName ?b_NoName ?t_NoName ?x_Ring ?k_Ring ?b_Ring ?t_Ring ?hg_NoName ?hk_NoName ?hdx_NoName ?ha_NoName ?hm_NoName ?hg_Ring ?hk_Ring ?hdx_Ring ?ha_Ring ?hm_Ring ?su_NoName_BadAsking ?ne_NoName_BadAsking ?su_NoName_BadSet ?ne_NoName_BadSet ?su_NoName_BadText ?ne_NoName_BadText ?su_NoName_BadValue ?ne_NoName_BadValue ?su_NoName_BadWish ?ne_NoName_BadWish ?su_NoName_GateError ?ne_NoName_GateError ?su_NoName_InUse ?ne_NoName_InUse ?su_NoName_NoGate ?ne_NoName_NoGate ?su_NoName_NoName ?su_NoName_NoRule ?ne_NoName_NoRule ?su_NoName_NoVersion ?ne_NoName_NoVersion ?su_NoName_Ring ?ne_NoName_Ring ?su_NoName_TooMuch ?ne_NoName_TooMuch ?su_NoName_ValueError ?su_Ring_BadAsking ?ne_Ring_BadAsking ?su_Ring_BadSet ?ne_Ring_BadSet ?su_Ring_BadText ?ne_Ring_BadText ?su_Ring_BadValue ?ne_Ring_BadValue ?su_Ring_BadWish ?ne_Ring_BadWish ?su_Ring_GateError ?ne_Ring_GateError ?su_Ring_InUse ?ne_Ring_InUse ?su_Ring_NoGate ?ne_Ring_NoGate ?su_Ring_NoName ?ne_Ring_NoName ?su_Ring_NoRule ?ne_Ring_NoRule ?su_Ring_NoVersion ?ne_Ring_NoVersion ?su_Ring_Ring ?su_Ring_TooMuch ?ne_Ring_TooMuch ?su_Ring_ValueError ?dq_BadAsking ?tq_BadAsking ?bq_BadAsking ?dq_BadSet ?tq_BadSet ?bq_BadSet ?dq_BadText ?tq_BadText ?bq_BadText ?dq_BadValue ?tq_BadValue ?bq_BadValue ?dq_BadWish ?tq_BadWish ?bq_BadWish ?dq_GateError ?tq_GateError ?bq_GateError ?dq_InUse ?tq_InUse ?bq_InUse ?dq_NoGate ?tq_NoGate ?bq_NoGate ?dq_NoName ?tq_NoName ?bq_NoName ?dq_NoRule ?tq_NoRule ?bq_NoRule ?dq_NoVersion ?tq_NoVersion ?bq_NoVersion ?dq_Ring ?tq_Ring ?bq_Ring ?dq_TooMuch ?tq_TooMuch ?bq_TooMuch ?hn_ ?ht_
    (case e_Folk => k_is); (case pg_Folk => k_is); (case hd_Folk => k_is); (case po_Folk => k_is); (case sa_Folk => k_is); (case mk_Folk => k_is); (case ck_Folk => k_is); (case na_Folk_members => k_is); (case na_Folk_names => k_is); (case a0 => k_is); (case l0 => k_is); (case c0 => k_is); (case k0 => k_is); (case a1 => k_is); (case n1 => k_is); (case l1 => k_is); (case c1 => k_is); (case k1 => k_is); (case a2 => k_is); (case n2 => k_is); (case l2 => k_is); (case c2 => k_is); (case k2 => k_is); (case a3 => k_is); (case n3 => k_is); (case l3 => k_is); (case c3 => k_is); (case k3 => k_is); (case a4 => k_is); (case n4 => k_is); (case l4 => k_is); (case c4 => k_is); (case k4 => k_is); (case a5 => k_is); (case n5 => k_is); (case l5 => k_is); (case c5 => k_is); (case k5 => k_is); (case a6 => k_is); (case n6 => k_is); (case l6 => k_is); (case c6 => k_is); (case k6 => k_is); (case a7 => k_is); (case n7 => k_is); (case l7 => k_is); (case c7 => k_is); (case k7 => k_is); (case a8 => k_is); (case n8 => k_is); (case l8 => k_is); (case c8 => k_is); (case k8 => k_is); (case a9 => k_is); (case l9 => k_is); (case c9 => k_is); (case k9 => k_is); (case a10 => k_is); (case l10 => k_is); (case c10 => k_is); (case k10 => k_is); (case a11 => k_is); (case l11 => k_is); (case c11 => k_is); (case k11 => k_is); (case a12 => k_is); (case l12 => k_is); (case c12 => k_is); (case k12 => k_is); (case a13 => k_is); (case l13 => k_is); (case c13 => k_is); (case k13 => k_is); (case a14 => k_is); (case n14 => k_is); (case l14 => k_is); (case c14 => k_is); (case k14 => k_is); (case a15 => k_is); (case n15 => k_is); (case l15 => k_is); (case c15 => k_is); (case k15 => k_is); (case a16 => k_is); (case n16 => k_is); (case l16 => k_is); (case c16 => k_is); (case k16 => k_is); (case a17 => k_is); (case l17 => k_is); (case c17 => k_is); (case k17 => k_is); (case a18 => k_is); (case l18 => k_is); (case c18 => k_is); (case k18 => k_is); (case a19 => k_is); (case l19 => k_is); (case c19 => k_is); (case k19 => k_is); (case a20 => k_is); (case l20 => k_is); (case c20 => k_is); (case k20 => k_is); (case a21 => k_is); (case l21 => k_is); (case c21 => k_is); (case k21 => k_is); (case a22 => k_is); (case l22 => k_is); (case c22 => k_is); (case k22 => k_is); (case a23 => k_is); (case l23 => k_is); (case c23 => k_is); (case k23 => k_is); (case a24 => k_is); (case l24 => k_is); (case c24 => k_is); (case k24 => k_is); (case a25 => k_is); (case l25 => k_is); (case c25 => k_is); (case k25 => k_is); (case a26 => k_is); (case l26 => k_is); (case c26 => k_is); (case k26 => k_is); (case z_ValueError => k_is); (case z_enumerate => k_is); (case z_int => k_is); (case z_isinstance => k_is); (case z_len => k_is); (case z_list => k_is); (case z_min => k_is); (case z_range => k_is); (case z_sorted => k_is); (case z_str => k_is); (case z_tuple => k_is); (case q_LONGEST_NAME => k_is); (case e_BadAsking => k_is); (case e_BadSet => k_is); (case e_BadText => k_is); (case e_BadValue => k_is); (case e_BadWish => k_is); (case e_GateError => k_is); (case e_InUse => k_is); (case e_NoGate => k_is); (case e_NoName => k_is); (case e_NoRule => k_is); (case e_NoVersion => k_is); (case e_Ring => k_is); (case e_TooMuch => k_is); (case x_NoName => k_exc); (case k_NoName => k_is); (case b_NoName => k_is); (case t_NoName => k_is); (case x_Ring => k_exc); (case k_Ring => k_is); (case b_Ring => k_is); (case t_Ring => k_is); (case hg_NoName => k_is); (case hk_NoName => k_is); (case hdx_NoName => k_is); (case ha_NoName => k_is); (case hm_NoName => k_is); (case hg_Ring => k_is); (case hk_Ring => k_is); (case hdx_Ring => k_is); (case ha_Ring => k_is); (case hm_Ring => k_is); (case su_NoName_BadAsking => k_is); (case ne_NoName_BadAsking => rfl); (case su_NoName_BadSet => k_is); (case ne_NoName_BadSet => rfl); (case su_NoName_BadText => k_is); (case ne_NoName_BadText => rfl); (case su_NoName_BadValue => k_is); (case ne_NoName_BadValue => rfl); (case su_NoName_BadWish => k_is); (case ne_NoName_BadWish => rfl); (case su_NoName_GateError => k_is); (case ne_NoName_GateError => rfl); (case su_NoName_InUse => k_is); (case ne_NoName_InUse => rfl); (case su_NoName_NoGate => k_is); (case ne_NoName_NoGate => rfl); (case su_NoName_NoName => k_is); (case su_NoName_NoRule => k_is); (case ne_NoName_NoRule => rfl); (case su_NoName_NoVersion => k_is); (case ne_NoName_NoVersion => rfl); (case su_NoName_Ring => k_is); (case ne_NoName_Ring => rfl); (case su_NoName_TooMuch => k_is); (case ne_NoName_TooMuch => rfl); (case su_NoName_ValueError => k_is); (case su_Ring_BadAsking => k_is); (case ne_Ring_BadAsking => rfl); (case su_Ring_BadSet => k_is); (case ne_Ring_BadSet => rfl); (case su_Ring_BadText => k_is); (case ne_Ring_BadText => rfl); (case su_Ring_BadValue => k_is); (case ne_Ring_BadValue => rfl); (case su_Ring_BadWish => k_is); (case ne_Ring_BadWish => rfl); (case su_Ring_GateError => k_is); (case ne_Ring_GateError => rfl); (case su_Ring_InUse => k_is); (case ne_Ring_InUse => rfl); (case su_Ring_NoGate => k_is); (case ne_Ring_NoGate => rfl); (case su_Ring_NoName => k_is); (case ne_Ring_NoName => rfl); (case su_Ring_NoRule => k_is); (case ne_Ring_NoRule => rfl); (case su_Ring_NoVersion => k_is); (case ne_Ring_NoVersion => rfl); (case su_Ring_Ring => k_is); (case su_Ring_TooMuch => k_is); (case ne_Ring_TooMuch => rfl); (case su_Ring_ValueError => k_is); (case dq_BadAsking => k_is); (case tq_BadAsking => k_is); (case bq_BadAsking => k_is); (case dq_BadSet => k_is); (case tq_BadSet => k_is); (case bq_BadSet => k_is); (case dq_BadText => k_is); (case tq_BadText => k_is); (case bq_BadText => k_is); (case dq_BadValue => k_is); (case tq_BadValue => k_is); (case bq_BadValue => k_is); (case dq_BadWish => k_is); (case tq_BadWish => k_is); (case bq_BadWish => k_is); (case dq_GateError => k_is); (case tq_GateError => k_is); (case bq_GateError => k_is); (case dq_InUse => k_is); (case tq_InUse => k_is); (case bq_InUse => k_is); (case dq_NoGate => k_is); (case tq_NoGate => k_is); (case bq_NoGate => k_is); (case dq_NoName => k_is); (case tq_NoName => k_is); (case bq_NoName => k_is); (case dq_NoRule => k_is); (case tq_NoRule => k_is); (case bq_NoRule => k_is); (case dq_NoVersion => k_is); (case tq_NoVersion => k_is); (case bq_NoVersion => k_is); (case dq_Ring => k_is); (case tq_Ring => k_is); (case bq_Ring => k_is); (case dq_TooMuch => k_is); (case tq_TooMuch => k_is); (case bq_TooMuch => k_is); (case hn_ => k_is); (case ht_ => k_is)

