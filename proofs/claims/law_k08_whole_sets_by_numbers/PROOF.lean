import PyProof.Rows.All
import Wide.All
import OpenK.AllK
import Wide.FinOn
import HandS.ForMost
import HandS.Evl
import HandS.Walk
import HandS.SortRule
import HandS.SortInts
import HandS.Strs
import HandS.Flow
import HandS.Zip
import HandS.IsInst
import HandS.Style
import HandS.TupAny
import HandS.Wide
import HandS.WideBits
import HandS.SetFor
import KE.GoesNew
import PyProof.Rows.SetFrom
import KE.DataMinMax
import KE.SortData
import HandS.SortKw
import PySem.Challenge.RW_gatewright_k08_whole_sets_by_numbers
set_option Elab.async false
set_option linter.all false
set_option maxRecDepth 100000
namespace Pu
open PySem PySem.Spec PyProof.Rows L2

abbrev Fg := PySem.W.Frag
/-- heap growth, heap growth as far as tuples go -/
def Gx (H H' : Hp) : Prop := forall a o, H a = some o -> H' a = some o
def Tx (H H' : Hp) : Prop := forall a xs, H a = some (.tup xs) -> H' a = some (.tup xs)
theorem Gx.rfl {H : Hp} : Gx H H := fun _ _ h => h
theorem Gx.trans {H H1 H2 : Hp} (a : Gx H H1) (b : Gx H1 H2) : Gx H H2 := fun x o h => b x o (a x o h)
theorem Gx.tx {H H' : Hp} (e : Gx H H') : Tx H H' := fun a xs h => e a _ h
theorem Gx.new {H : Hp} {p : Addr} {o : HO} (h : H p = none) : Gx H (upd H p o) := fun a u e => by
  rw [upd_ne (ne_of_none e h)]
  exact e
theorem Gx.back {H H' : Hp} {p : Addr} (e : Gx H H') (h : H' p = none) : H p = none := by
  cases q : H p with
  | none => rfl
  | some o => have z := e p o q; rw [h] at z; cases z
theorem Gx.mut {H H' : Hp} {p : Addr} {o : HO} (e : Gx H H') (h : H p = none) : Gx H (upd H' p o) := fun a u q => by
  rw [upd_ne (ne_of_none q h)]
  exact e a u q
theorem Gx.rd {H H' : Hp} {a : Addr} {u : HO} (e : Gx H H') (h : Rd H a u) : Rd H' a u := h.elim (fun z => .inl (e _ _ z)) fun ⟨o, z⟩ => .inr ⟨o, e _ _ z⟩
theorem Gx.l {K : Fg} {H H' : Hp} {a : Addr} {xs : List V} (e : Gx H H') (h : SqL K H a xs) : SqL K H' a xs := h.elim (fun z => .inl (e.rd z)) .inr
theorem Tx.mut {H : Hp} {p : Addr} {o : HO} (h : forall xs, H p ≠ some (.tup xs)) : Tx H (upd H p o) := fun a xs q => by
  rw [upd_ne (fun z => h xs (by rw [← z]; exact q))]
  exact q
theorem Tx.trans {H H1 H2 : Hp} (a : Tx H H1) (b : Tx H1 H2) : Tx H H2 := fun x o h => b x o (a x o h)

/-- how a value stands for a thing of mine -/
class Rp (A : Type) where
  rp : Fg -> Hp -> V -> A -> Prop
  mono : forall {K : Fg} {H H' : Hp} {v : V} {x : A}, Gx H H' -> rp K H v x -> rp K H' v x
/-- .. that leans on tuples alone -/
class Im (A : Type) [Rp A] : Prop where
  im : forall {K : Fg} {H H' : Hp} {v : V} {x : A}, Tx H H' -> Rp.rp K H v x -> Rp.rp K H' v x
open Rp (rp)
def Al {A : Type} (F : V -> A -> Prop) : List V -> List A -> Prop
  | [], [] => True
  | v :: vs, x :: xs => F v x ∧ Al F vs xs
  | _, _ => False
theorem Al.mono {A : Type} {F G : V -> A -> Prop} (h : forall v x, F v x -> G v x) : forall {vs : List V} {xs : List A}, Al F vs xs -> Al G vs xs
  | [], [], _ => trivial
  | _ :: _, _ :: _, q => ⟨h _ _ q.1, Al.mono h q.2⟩
  | [], _ :: _, q => q.elim
  | _ :: _, [], q => q.elim
theorem Al.len {A : Type} {F : V -> A -> Prop} : forall {vs : List V} {xs : List A}, Al F vs xs -> vs.length = xs.length
  | [], [], _ => rfl
  | _ :: _, _ :: _, q => by simp only [List.length_cons, Al.len q.2]
  | [], _ :: _, q => q.elim
  | _ :: _, [], q => q.elim
theorem Al.get {A : Type} {F : V -> A -> Prop} : forall {vs : List V} {xs : List A} {i : Nat} {x : A}, Al F vs xs -> xs[i]? = some x -> exists v, vs[i]? = some v ∧ F v x
  | [], [], _, _, _, h => by simp at h
  | v :: _, y :: _, 0, x, q, h => by
    have e : y = x := by simpa using h
    exact ⟨v, by simp, e ▸ q.1⟩
  | _ :: _, _ :: _, i + 1, x, q, h => by
    obtain ⟨v, h1, h2⟩ := Al.get (i := i) q.2 (by simpa using h)
    exact ⟨v, by simpa using h1, h2⟩
  | [], _ :: _, _, _, q, _ => q.elim
  | _ :: _, [], _, _, q, _ => q.elim
theorem Al.getV {A : Type} {F : V -> A -> Prop} : forall {vs : List V} {xs : List A} {i : Nat} {v : V}, Al F vs xs -> vs[i]? = some v -> exists x, xs[i]? = some x ∧ F v x
  | [], [], _, _, _, h => by simp at h
  | v :: _, y :: _, 0, x, q, h => by
    have e : v = x := by simpa using h
    exact ⟨y, by simp, e ▸ q.1⟩
  | _ :: _, _ :: _, i + 1, x, q, h => by
    obtain ⟨v, h1, h2⟩ := Al.getV (i := i) q.2 (by simpa using h)
    exact ⟨v, by simpa using h1, h2⟩
  | [], _ :: _, _, _, q, _ => q.elim
  | _ :: _, [], _, _, q, _ => q.elim
theorem Al.app {A : Type} {F : V -> A -> Prop} : forall {vs ws : List V} {xs ys : List A}, Al F vs xs -> Al F ws ys -> Al F (vs ++ ws) (xs ++ ys)
  | [], _, [], _, _, r => r
  | _ :: _, _, _ :: _, _, q, r => ⟨q.1, Al.app q.2 r⟩
  | [], _, _ :: _, _, q, _ => q.elim
  | _ :: _, _, [], _, q, _ => q.elim
theorem Al.one {A : Type} {F : V -> A -> Prop} {v : V} {x : A} (h : F v x) : Al F [v] [x] := ⟨h, trivial⟩
theorem Al.drop {A : Type} {F : V -> A -> Prop} : forall (n : Nat) {vs : List V} {xs : List A}, Al F vs xs -> Al F (vs.drop n) (xs.drop n)
  | 0, _, _, q => q
  | _ + 1, [], [], q => q
  | n + 1, _ :: _, _ :: _, q => Al.drop n q.2
  | _ + 1, [], _ :: _, q => q.elim
  | _ + 1, _ :: _, [], q => q.elim
theorem Al.take {A : Type} {F : V -> A -> Prop} : forall (n : Nat) {vs : List V} {xs : List A}, Al F vs xs -> Al F (vs.take n) (xs.take n)
  | 0, _, _, q => trivial
  | _ + 1, [], [], q => q
  | n + 1, _ :: _, _ :: _, q => ⟨q.1, Al.take n q.2⟩
  | _ + 1, [], _ :: _, q => q.elim
  | _ + 1, _ :: _, [], q => q.elim
theorem Al.set {A : Type} {F : V -> A -> Prop} {v : V} {x : A} (h : F v x) : forall (n : Nat) {vs : List V} {xs : List A}, Al F vs xs -> Al F (vs.set n v) (xs.set n x)
  | 0, [], [], q => q
  | 0, _ :: _, _ :: _, q => ⟨h, q.2⟩
  | _ + 1, [], [], q => q
  | n + 1, _ :: _, _ :: _, q => ⟨q.1, Al.set h n q.2⟩
  | 0, [], _ :: _, q => q.elim
  | 0, _ :: _, [], q => q.elim
  | _ + 1, [], _ :: _, q => q.elim
  | _ + 1, _ :: _, [], q => q.elim
theorem Al.rev {A : Type} {F : V -> A -> Prop} : forall {vs : List V} {xs : List A}, Al F vs xs -> Al F vs.reverse xs.reverse
  | [], [], q => q
  | v :: vs, x :: xs, q => by
    rw [List.reverse_cons, List.reverse_cons]
    exact Al.app (Al.rev q.2) (Al.one q.1)
  | [], _ :: _, q => q.elim
  | _ :: _, [], q => q.elim

instance : Rp Int := ⟨fun _ _ v x => v = .int x, fun _ h => h⟩
instance : Im Int := ⟨fun _ h => h⟩
instance : Rp Bool := ⟨fun _ _ v x => v = .bl x, fun _ h => h⟩
instance : Im Bool := ⟨fun _ h => h⟩
instance : Rp Str := ⟨fun _ _ v x => v = .str x, fun _ h => h⟩
instance : Im Str := ⟨fun _ h => h⟩
instance : Rp Unit := ⟨fun _ _ v _ => v = .non, fun _ h => h⟩
instance : Im Unit := ⟨fun _ h => h⟩
instance {A B : Type} [Rp A] [Rp B] : Rp (A × B) where
  rp K H v x := exists a u w, v = .ref a ∧ H a = some (.tup [u, w]) ∧ rp K H u x.1 ∧ rp K H w x.2
  mono e := fun ⟨a, u, w, h1, h2, h3, h4⟩ => ⟨a, u, w, h1, e _ _ h2, Rp.mono e h3, Rp.mono e h4⟩
instance {A B : Type} [Rp A] [Rp B] [Im A] [Im B] : Im (A × B) where
  im e := fun ⟨a, u, w, h1, h2, h3, h4⟩ => ⟨a, u, w, h1, e _ _ h2, Im.im e h3, Im.im e h4⟩
/-- three in a tuple -/
structure T3 (A B C : Type) where
  a : A
  b : B
  c : C
instance {A B C : Type} [Rp A] [Rp B] [Rp C] : Rp (T3 A B C) where
  rp K H v x := exists a u w z, v = .ref a ∧ H a = some (.tup [u, w, z]) ∧ rp K H u x.a ∧ rp K H w x.b ∧ rp K H z x.c
  mono e := fun ⟨a, u, w, z, h1, h2, h3, h4, h5⟩ => ⟨a, u, w, z, h1, e _ _ h2, Rp.mono e h3, Rp.mono e h4, Rp.mono e h5⟩
instance {A B C : Type} [Rp A] [Rp B] [Rp C] [Im A] [Im B] [Im C] : Im (T3 A B C) where
  im e := fun ⟨a, u, w, z, h1, h2, h3, h4, h5⟩ => ⟨a, u, w, z, h1, e _ _ h2, Im.im e h3, Im.im e h4, Im.im e h5⟩
/-- a tuple of as many as there are -/
structure Tl (A : Type) where
  l : List A
  deriving DecidableEq
instance {A : Type} [Rp A] : Rp (Tl A) where
  rp K H v x := exists a vs, v = .ref a ∧ H a = some (.tup vs) ∧ Al (rp K H) vs x.l
  mono e := fun ⟨a, vs, h1, h2, h3⟩ => ⟨a, vs, h1, e _ _ h2, h3.mono fun _ _ => Rp.mono e⟩
instance {A : Type} [Rp A] [Im A] : Im (Tl A) where
  im e := fun ⟨a, vs, h1, h2, h3⟩ => ⟨a, vs, h1, e _ _ h2, h3.mono fun _ _ => Im.im e⟩
/-- a list -/
instance {A : Type} [Rp A] : Rp (List A) where
  rp K H v x := exists a vs, v = .ref a ∧ H a = some (.lst vs) ∧ Al (rp K H) vs x
  mono e := fun ⟨a, vs, h1, h2, h3⟩ => ⟨a, vs, h1, e _ _ h2, h3.mono fun _ _ => Rp.mono e⟩
/-- the script -/
structure Scr where
  l : List Int
instance : Rp Scr where
  rp K H v x := exists a, v = .ref a ∧ SqL K H a (x.l.map V.int)
  mono e := fun ⟨a, h1, h2⟩ => ⟨a, h1, e.l h2⟩
/-- a list or a tuple -/
def SqE (K : Fg) (H : Hp) (a : Addr) (vs : List V) : Prop := SqL K H a vs ∨ SqT K H a vs

theorem al_int {K : Fg} {H : Hp} : forall {vs : List V} {xs : List Int}, Al (rp K H) vs xs -> vs = xs.map V.int
  | [], [], _ => rfl
  | v :: vs, x :: xs, q => by
    have e : v = .int x := q.1
    rw [List.map_cons, ← al_int q.2, e]
  | [], _ :: _, q => q.elim
  | _ :: _, [], q => q.elim
theorem int_al {K : Fg} {H : Hp} : forall (xs : List Int), Al (rp K H) (xs.map V.int) xs
  | [] => trivial
  | _ :: xs => ⟨rfl, int_al xs⟩
theorem al_bl {K : Fg} {H : Hp} : forall {vs : List V} {xs : List Bool}, Al (rp K H) vs xs -> vs = xs.map V.bl
  | [], [], _ => rfl
  | v :: vs, x :: xs, q => by
    have e : v = .bl x := q.1
    rw [List.map_cons, ← al_bl q.2, e]
  | [], _ :: _, q => q.elim
  | _ :: _, [], q => q.elim

/-! the ledger: what may still change -/
abbrev Led := List (Addr × HO)
def Mu : HO -> Prop
  | .lst _ => True
  | .dK _ => True
  | .ext _ => True
  | _ => False
structure At (G H : Hp) (L : Led) : Prop where
  ex : Gx G H
  nd : (L.map (·.1)).Nodup
  led : forall p, p ∈ L -> H p.1 = some p.2 ∧ G p.1 = none ∧ Mu p.2
theorem At.nil (H : Hp) : At H H [] := ⟨Gx.rfl, List.nodup_nil, fun _ h => nomatch h⟩
theorem At.grow {G H H' : Hp} {L : Led} (A : At G H L) (e : Gx H H') : At G H' L := ⟨A.ex.trans e, A.nd, fun p h => let ⟨a, b, c⟩ := A.led p h; ⟨e _ _ a, b, c⟩⟩
def hid (H : Hp) (L : Led) : Hp := fun b => if b ∈ L.map (·.1) then none else H b
theorem hid_in {H : Hp} {L : Led} {b : Addr} (h : b ∈ L.map (·.1)) : hid H L b = none := if_pos h
theorem hid_out {H : Hp} {L : Led} {b : Addr} (h : b ∉ L.map (·.1)) : hid H L b = H b := if_neg h
theorem At.hid {G H : Hp} {L : Led} (A : At G H L) : At (hid H L) H L :=
  ⟨fun a o h => by
    by_cases q : a ∈ L.map (·.1)
    · rw [hid_in q] at h; cases h
    · rw [hid_out q] at h; exact h, A.nd,
   fun p h => ⟨(A.led p h).1, hid_in (List.mem_map_of_mem h), (A.led p h).2.2⟩⟩
theorem At.gh {G H : Hp} {L : Led} (A : At G H L) : Gx G (Pu.hid H L) := fun a o h => by
  have q : a ∉ L.map (·.1) := fun z => by
    obtain ⟨p, hp, e⟩ := List.mem_map.mp z
    rw [← e, (A.led p hp).2.1] at h; cases h
  rw [hid_out q]
  exact A.ex a o h
theorem At.tx {G H : Hp} {L : Led} (A : At G H L) : Tx H (Pu.hid H L) := fun a xs h => by
  have q : a ∉ L.map (·.1) := fun z => by
    obtain ⟨p, hp, e⟩ := List.mem_map.mp z
    obtain ⟨h1, _, h3⟩ := A.led p hp
    rw [e, h] at h1
    rw [← Option.some.inj h1] at h3
    exact h3
  rw [hid_out q]
  exact h
end Pu

set_option Elab.async false
set_option linter.all false
set_option maxRecDepth 100000
namespace Pu
open Pu.Rp (rp)
open PySem PySem.Spec PyProof.Rows L2

def o1 {A C : Type} (f : A -> Option C) (ma : Option A) : Option C := ma.bind f
def o2 {A B C : Type} (f : A -> B -> Option C) (ma : Option A) (mb : Option B) : Option C := ma.bind fun a => mb.bind fun b => f a b
theorem o1s {A C : Type} {f : A -> Option C} {ma : Option A} {c : C} (h : o1 f ma = some c) : exists a, ma = some a ∧ f a = some c := by
  cases ma with
  | none => cases h
  | some a => exact ⟨a, rfl, h⟩
theorem o2s {A B C : Type} {f : A -> B -> Option C} {ma : Option A} {mb : Option B} {c : C} (h : o2 f ma mb = some c) : exists a b, ma = some a ∧ mb = some b ∧ f a b = some c := by
  cases ma with
  | none => cases h
  | some a => cases mb with
    | none => cases h
    | some b => exact ⟨a, b, rfl, rfl, h⟩

/-! what a reading comes to: read (EvB), made (EvO); m none: nothing is said -/
section
variable {K : Fg} {A B C D : Type} [Rp A] [Rp B] [Rp C] [Rp D]
def EvB (K : Fg) (te : TE) (σ : L2.St) (H : Hp) (m : Option A) : Prop :=
  forall x, m = some x -> forall H1, Gx H H1 -> forall Q : VK, (forall v H2, Gx H1 H2 -> rp K H2 v x -> Q v H2) -> te σ H1 Q
def EvO (K : Fg) (te : TE) (σ : L2.St) (G H : Hp) (m : Option A) : Prop :=
  forall x, m = some x -> forall G1 H1 L, Gx G G1 -> Gx H H1 -> At G1 H1 L -> forall Q : VK, (forall v G2 H2, Gx G1 G2 -> Gx H1 H2 -> At G2 H2 L -> rp K G2 v x -> Q v H2) -> te σ H1 Q
def EvT (tt : TT) (σ : L2.St) (H : Hp) (m : Option Bool) : Prop :=
  forall b, m = some b -> forall H1, Gx H H1 -> forall Q : Bool -> Hp -> Prop, (forall H2, Gx H1 H2 -> Q b H2) -> tt σ H1 Q
variable {σ : L2.St} {G G' H H' : Hp} {L : Led} {te ta tb tc : TE} {tt tu : TT}
theorem EvB.mono {m : Option A} (h : EvB K te σ H m) (e : Gx H H') : EvB K te σ H' m := fun x hx H1 e1 Q q => h x hx H1 (e.trans e1) Q q
theorem EvT.mono {m : Option Bool} (h : EvT tt σ H m) (e : Gx H H') : EvT tt σ H' m := fun x hx H1 e1 Q q => h x hx H1 (e.trans e1) Q q
theorem EvO.mono {m : Option A} (h : EvO K te σ G H m) (g : Gx G G') (e : Gx H H') : EvO K te σ G' H' m := fun x hx G1 H1 L g1 e1 a Q q => h x hx G1 H1 L (g.trans g1) (e.trans e1) a Q q
/-- what leans on tuples alone is one's own -/
theorem EvB.own [Im A] {m : Option A} (h : EvB K te σ H m) : EvO K te σ G H m := fun x hx G1 H1 L g1 e1 a Q q =>
  h x hx H1 e1 Q fun v H2 e2 r => q v (hid H2 L) H2 (a.grow e2).gh e2 (a.grow e2).hid (Im.im (a.grow e2).tx r)
theorem EvO.bor {m : Option A} (h : EvO K te σ G H m) (a : At G H L) : EvB K te σ H m := fun x hx H1 e1 Q q =>
  h x hx G H1 L Gx.rfl e1 (a.grow e1) Q fun v G2 H2 _ e2 a2 r => q v H2 e2 (Rp.mono a2.ex r)
theorem EvB.eq {m m' : Option A} (h : EvB K te σ H m) (e : m = m') : EvB K te σ H m' := e ▸ h
theorem EvO.eq {m m' : Option A} (h : EvO K te σ G H m) (e : m = m') : EvO K te σ G H m' := e ▸ h

/-- a new list -/
def EvN (K : Fg) (te : TE) (σ : L2.St) (H : Hp) (m : Option (List A)) : Prop :=
  forall xs, m = some xs -> forall H1, Gx H H1 -> forall Q : VK, (forall p vs H2, H1 p = none -> Gx H1 H2 -> H2 p = some (.lst vs) -> Al (rp K H2) vs xs -> Q (.ref p) H2) -> te σ H1 Q
theorem EvN.mono {m : Option (List A)} (h : EvN K te σ H m) (e : Gx H H') : EvN K te σ H' m := fun x hx H1 e1 Q q => h x hx H1 (e.trans e1) Q q
theorem EvN.b {m : Option (List A)} (h : EvN K te σ H m) : EvB K te σ H m := fun x hx H1 e Q q => h x hx H1 e Q fun p vs H2 hn g h2 r => q (.ref p) H2 g ⟨p, vs, rfl, h2, r⟩
theorem At.fresh {G H : Hp} {L : Led} {p : Addr} (a : At G H L) (hp : H p = none) : p ∉ L.map (·.1) := fun z => by
  obtain ⟨o, ho, e5⟩ := List.mem_map.mp z
  have := (a.led o ho).1
  rw [e5, hp] at this
  cases this
theorem EvN.own [Im A] {m : Option (List A)} (h : EvN K te σ H m) : EvO K te σ G H m := fun x hx G1 H1 L g1 e1 a Q q =>
  h x hx H1 e1 Q fun p vs H2 hn g h2 r => q (.ref p) (hid H2 L) H2 (a.grow g).gh g (a.grow g).hid ⟨p, vs, rfl, (hid_out (a.fresh hn)).trans h2, r.mono fun _ _ => Im.im (a.grow g).tx⟩

/-! names, constants -/
theorem eb_v {i : Nat} {v : V} {x : A} (h : σ[i]? = some (some v)) (r : rp K H v x) : EvB K (tVar i) σ H (some x) := fun y hy H1 e Q q => by
  cases hy
  exact ⟨v, h, q v H1 Gx.rfl (Rp.mono e r)⟩
theorem eo_v {i : Nat} {v : V} {x : A} (h : σ[i]? = some (some v)) (r : rp K G v x) : EvO K (tVar i) σ G H (some x) := fun y hy G1 H1 L g e a Q q => by
  cases hy
  exact ⟨v, h, q v G1 H1 Gx.rfl Gx.rfl a (Rp.mono g r)⟩
theorem eb_c {v : V} {x : A} (r : forall H, rp K H v x) : EvB K (tC v) σ H (some x) := fun y hy H1 e Q q => by
  cases hy
  exact q v H1 Gx.rfl (r _)
theorem eb_int {i : Int} : EvB K (tC (.int i)) σ H (some i) := eb_c fun _ => rfl
theorem eb_bl {i : Bool} : EvB K (tC (.bl i)) σ H (some i) := eb_c fun _ => rfl
theorem eb_str {i : Str} : EvB K (tC (.str i)) σ H (some i) := eb_c fun _ => rfl
theorem eb_non : EvB K (tC .non) σ H (some ()) := eb_c fun _ => rfl

/-! operators by values -/
def RB (K : Fg) (r : R2) (f : A -> B -> Option C) : Prop := forall H x y a b c, rp K H x a -> rp K H y b -> f a b = some c -> forall Q : VK, (forall v H2, Gx H H2 -> rp K H2 v c -> Q v H2) -> r x y H Q
def RB1 (K : Fg) (r : V -> Hp -> VK -> Prop) (f : A -> Option C) : Prop := forall H x a c, rp K H x a -> f a = some c -> forall Q : VK, (forall v H2, Gx H H2 -> rp K H2 v c -> Q v H2) -> r x H Q
theorem eb_op {r : R2} {f : A -> B -> Option C} {ma : Option A} {mb : Option B} (hr : RB K r f) (ha : EvB K ta σ H ma) (hb : EvB K tb σ H mb) : EvB K (tOp r ta tb) σ H (o2 f ma mb) := fun x hx H1 e Q q => by
  obtain ⟨a, b, e1, e2, e3⟩ := o2s hx
  exact ha a e1 H1 e _ fun v H2 g2 r2 => hb b e2 H2 (e.trans g2) _ fun w H3 g3 r3 => hr H3 v w a b x (Rp.mono g3 r2) r3 e3 Q fun z H4 g4 r4 => q z H4 ((g2.trans g3).trans g4) r4
theorem eb_un {r : V -> Hp -> VK -> Prop} {f : A -> Option C} {ma : Option A} (hr : RB1 K r f) (ha : EvB K ta σ H ma) : EvB K (tUn r ta) σ H (o1 f ma) := fun x hx H1 e Q q => by
  obtain ⟨a, e1, e3⟩ := o1s hx
  exact ha a e1 H1 e _ fun v H2 g2 r2 => hr H2 v a x r2 e3 Q fun z H4 g4 r4 => q z H4 (g2.trans g4) r4
theorem rb_I0 {g : Int -> Int -> V} {f : Int -> Int -> C} (h : forall H i j, rp K H (g i j) (f i j)) : RB K (rI0 g) (fun i j => some (f i j)) := fun H x y a b c ra rb hc Q q => by
  cases hc
  exact ⟨a, b, ra, rb, q _ H Gx.rfl (h _ _ _)⟩
theorem rb_I {P : Int -> Int -> Prop} [forall i j, Decidable (P i j)] {R : Int -> Int -> Prop} {g : Int -> Int -> V} {f : Int -> Int -> C} (hP : forall i j, P i j -> R i j) (h : forall H i j, P i j -> rp K H (g i j) (f i j)) : RB K (rI R g) (fun i j => if P i j then some (f i j) else none) := fun H x y a b c ra rb hc Q q => by
  by_cases p : P a b
  · simp only [if_pos p] at hc
    cases hc
    exact ⟨a, b, ra, rb, hP _ _ p, q _ H Gx.rfl (h _ _ _ p)⟩
  · simp only [if_neg p] at hc; cases hc
theorem rb_add : RB (A := Int) (B := Int) (C := Int) K (rI0 fun i j => .int (i + j)) (fun i j => some (i + j)) := rb_I0 fun _ _ _ => rfl
theorem rb_sub : RB (A := Int) (B := Int) (C := Int) K (rI0 fun i j => .int (i - j)) (fun i j => some (i - j)) := rb_I0 fun _ _ _ => rfl
theorem rb_lt : RB (A := Int) (B := Int) (C := Bool) K (rI0 fun i j => .bl (decide (i < j))) (fun i j => some (decide (i < j))) := rb_I0 fun _ _ _ => rfl
theorem rb_le : RB (A := Int) (B := Int) (C := Bool) K (rI0 fun i j => .bl (decide (i ≤ j))) (fun i j => some (decide (i ≤ j))) := rb_I0 fun _ _ _ => rfl
theorem rb_gt : RB (A := Int) (B := Int) (C := Bool) K (rI0 fun i j => .bl (decide (j < i))) (fun i j => some (decide (j < i))) := rb_I0 fun _ _ _ => rfl
theorem rb_ge : RB (A := Int) (B := Int) (C := Bool) K (rI0 fun i j => .bl (decide (j ≤ i))) (fun i j => some (decide (j ≤ i))) := rb_I0 fun _ _ _ => rfl
/-- one side within 2 ^ 64 -/
def mulOk (i j : Int) : Bool := (decide (-(2 ^ 64) < i) && decide (i < 2 ^ 64)) || (decide (-(2 ^ 64) < j) && decide (j < 2 ^ 64))
theorem rb_mul : RB (A := Int) (B := Int) (C := Int) K (rI CMul fun i j => .int (i * j)) (fun i j => if mulOk i j = true then some (i * j) else none) :=
  rb_I (fun i j h => by
    unfold mulOk at h
    simp only [Bool.or_eq_true, Bool.and_eq_true, decide_eq_true_eq] at h
    exact h) fun _ _ _ _ => rfl
end
end Pu

set_option Elab.async false
set_option linter.all false
set_option maxRecDepth 100000
namespace Pu
open Pu.Rp (rp)
open PySem PySem.Spec PyProof.Rows L2
section
variable {K : Fg} {A B C D : Type} [Rp A] [Rp B] [Rp C] [Rp D]
variable {σ : L2.St} {G G' H H' : Hp} {L : Led} {te ta tb tc : TE} {tt tu : TT}
theorem rb_fdiv : RB (A := Int) (B := Int) (C := Int) K (rI CDiv fun i j => .int (i / j)) (fun i j => if 0 < j ∧ j < 1073741824 then some (i / j) else none) :=
  rb_I (fun i j h => h) fun _ _ _ _ => rfl
theorem rb_mod : RB (A := Int) (B := Int) (C := Int) K (rI (fun _ j => 0 < j) fun i j => .int (i % j)) (fun i j => if 0 < j then some (i % j) else none) :=
  rb_I (fun i j h => h) fun _ _ _ _ => rfl
def powOk (i j : Int) : Bool := decide (0 ≤ j) && decide (j ≤ 1000000) && decide (i.natAbs < 18446744073709551616)
theorem rb_pow : RB (A := Int) (B := Int) (C := Int) K (rI CPow fun i j => .int (i ^ j.toNat)) (fun i j => if powOk i j = true then some (i ^ j.toNat) else none) :=
  rb_I (fun i j h => by
    unfold powOk at h
    simp only [Bool.and_eq_true, decide_eq_true_eq] at h
    exact ⟨h.1.1, h.1.2, h.2⟩) fun _ _ _ _ => rfl
theorem rb_neg : RB1 (A := Int) (C := Int) K (rU fun i => .int (-i)) (fun i => some (-i)) := fun H x a c ra hc Q q => by
  cases hc
  exact ⟨a, ra, q _ H Gx.rfl rfl⟩

/-! == -/
class Eqd (A : Type) [Rp A] [DecidableEq A] where
  enc : A -> PyData
  dp : forall {K : Fg} {H : Hp} {v : V} {x : A}, rp K H v x -> Dp K H v (enc x)
  lay : forall x : A, (enc x).canLay0 = true
  dep : Nat
  deep : forall x : A, (enc x).depth ≤ dep
  eqv : forall x y : A, PyData.eqv (enc x) (enc y) = decide (x = y)
instance : Eqd Int where
  enc := .int
  dp h := by cases h; exact .int _
  lay _ := by simp [PyData.canLay0]
  dep := 0
  deep _ := by simp [PyData.depth]
  eqv x y := by
    rw [PyData.eqv]
    by_cases h : x = y <;> simp [h]
instance : Eqd Bool where
  enc := .bool
  dp h := by cases h; exact .bl _
  lay _ := by simp [PyData.canLay0]
  dep := 0
  deep _ := by simp [PyData.depth]
  eqv x y := by
    rw [PyData.eqv]
    cases x <;> cases y <;> rfl
instance : Eqd Unit where
  enc _ := .none
  dp h := by cases h; exact .non
  lay _ := by simp [PyData.canLay0]
  dep := 0
  deep _ := by simp [PyData.depth]
  eqv x y := by
    rw [PyData.eqv]
    cases x; cases y; rfl
section
variable [DecidableEq A] [DecidableEq B] [Eqd A] [Eqd B]
instance : Eqd (A × B) where
  enc x := .tuple [Eqd.enc x.1, Eqd.enc x.2]
  dp h := by
    obtain ⟨a, u, w, rfl, h2, h3, h4⟩ := h
    exact .tup (SqT.of h2) (.cons (Eqd.dp h3) (.cons (Eqd.dp h4) .nil))
  lay x := by simp [PyData.canLay0, PyData.canLayAll0, Eqd.lay]
  dep := max (Eqd.dep A) (Eqd.dep B) + 1
  deep x := by
    have h1 := Eqd.deep x.1
    have h2 := Eqd.deep x.2
    simp only [PyData.depth, PyData.depthAll]
    omega
  eqv x y := by
    rw [PyData.eqv, PyData.eqvAll, PyData.eqvAll, PyData.eqvAll, Eqd.eqv, Eqd.eqv, Bool.and_true]
    cases x; cases y
    simp
theorem al_dp {K : Fg} {H : Hp} : forall {vs : List V} {xs : List A}, Al (rp K H) vs xs -> DpAll K H vs (xs.map Eqd.enc)
  | [], [], _ => .nil
  | _ :: _, _ :: _, q => .cons (Eqd.dp q.1) (al_dp q.2)
  | [], _ :: _, q => q.elim
  | _ :: _, [], q => q.elim
theorem lay_all : forall xs : List A, PyData.canLayAll0 (xs.map Eqd.enc) = true
  | [] => by simp [PyData.canLayAll0]
  | x :: xs => by
    have ih := lay_all xs
    simp [PyData.canLayAll0, Eqd.lay, ih]
theorem deep_all : forall xs : List A, PyData.depthAll (xs.map Eqd.enc) ≤ Eqd.dep A
  | [] => by simp [PyData.depthAll]
  | x :: xs => by
    have ih := deep_all xs
    have h := Eqd.deep x
    simp only [List.map_cons, PyData.depthAll]
    omega
theorem eqv_all : forall xs ys : List A, PyData.eqvAll (xs.map Eqd.enc) (ys.map Eqd.enc) = decide (xs = ys)
  | [], [] => by simp [PyData.eqvAll]
  | [], _ :: _ => by simp [PyData.eqvAll]
  | _ :: _, [] => by simp [PyData.eqvAll]
  | x :: xs, y :: ys => by
    have ih := eqv_all xs ys
    rw [List.map_cons, List.map_cons, PyData.eqvAll, Eqd.eqv, ih]
    simp
instance : Eqd (List A) where
  enc x := .list (x.map Eqd.enc)
  dp h := by
    obtain ⟨a, vs, rfl, h2, h3⟩ := h
    exact .lst (SqL.of h2) (al_dp h3)
  lay x := by
    rw [PyData.canLay0]
    exact lay_all x
  dep := Eqd.dep A + 1
  deep x := by
    have h := deep_all x
    simp only [PyData.depth]
    omega
  eqv x y := by
    rw [PyData.eqv]
    exact eqv_all x y
instance : Eqd (Tl A) where
  enc x := .tuple (x.l.map Eqd.enc)
  dp h := by
    obtain ⟨a, vs, rfl, h2, h3⟩ := h
    exact .tup (SqT.of h2) (al_dp h3)
  lay x := by
    rw [PyData.canLay0]
    exact lay_all x.l
  dep := Eqd.dep A + 1
  deep x := by
    have h := deep_all x.l
    simp only [PyData.depth]
    omega
  eqv x y := by
    rw [PyData.eqv, eqv_all]
    cases x; cases y
    simp
theorem shaped_enc (h : Eqd.dep A ≤ 64) (x : A) : SeqAt.shaped (Eqd.enc x) = true := by
  unfold SeqAt.shaped
  rw [Eqd.lay, Bool.true_and]
  exact decide_eq_true (Nat.le_trans (Eqd.deep x) h)
theorem rb_eq (h : Eqd.dep A ≤ 64 := by decide) : RB (A := A) (B := A) (C := Bool) K (rEqD K) (fun a b => some (decide (a = b))) := fun H x y a b c ra rb hc Q q => by
  cases hc
  refine ⟨_, _, Eqd.dp ra, Eqd.dp rb, shaped_enc h a, shaped_enc h b, ?_⟩
  rw [Eqd.eqv]
  exact q _ H Gx.rfl rfl
theorem rb_ne (h : Eqd.dep A ≤ 64 := by decide) : RB (A := A) (B := A) (C := Bool) K (rNeD K) (fun a b => some (!decide (a = b))) := fun H x y a b c ra rb hc Q q => by
  cases hc
  refine ⟨_, _, Eqd.dp ra, Eqd.dp rb, shaped_enc h a, shaped_enc h b, ?_⟩
  rw [Eqd.eqv]
  exact q _ H Gx.rfl rfl
end

/-! items, slices -/
def ix {A : Type} (xs : List A) (i : Int) : Option A := atI xs i
theorem ixN_lt {n : Nat} {i : Int} {j : Nat} (h : ixN n i = some j) : j < n := by
  unfold ixN at h
  split at h
  · split at h
    · cases h; omega
    · cases h
  · split at h
    · cases h; omega
    · cases h
theorem al_at {A : Type} {F : V -> A -> Prop} {vs : List V} {xs : List A} {i : Int} {x : A} (q : Al F vs xs) (h : ix xs i = some x) : exists v, atI vs i = some v ∧ F v x := by
  unfold ix atI at h
  cases e : ixN xs.length i with
  | none => rw [e] at h; cases h
  | some j =>
    rw [e] at h
    obtain ⟨v, h1, h2⟩ := q.get (i := j) h
    refine ⟨v, ?_, h2⟩
    unfold atI
    rw [q.len, e]
    exact h1
theorem rb_ixL : RB (A := List A) (B := Int) (C := A) K (rIxL K) ix := fun H x y a b c ra rb hc Q q => by
  obtain ⟨p, vs, rfl, h2, h3⟩ := ra
  obtain ⟨v, h4, h5⟩ := al_at h3 hc
  exact ⟨p, vs, b, v, rfl, rb, SqL.of h2, h4, q v H Gx.rfl h5⟩
theorem rb_ixT : RB (A := Tl A) (B := Int) (C := A) K (rIxT K) (fun a b => ix a.l b) := fun H x y a b c ra rb hc Q q => by
  obtain ⟨p, vs, rfl, h2, h3⟩ := ra
  obtain ⟨v, h4, h5⟩ := al_at h3 hc
  exact ⟨p, vs, b, v, rfl, rb, SqT.of h2, h4, q v H Gx.rfl h5⟩
/-- p[0], p[1] of a pair -/
theorem eb_fst {ma : Option (A × B)} {i : Int} (hi : i = 0) (ha : EvB K ta σ H ma) : EvB K (tOp (rIxT K) ta (tC (.int i))) σ H (o1 (fun x => some x.1) ma) := fun x hx H1 e Q q => by
  obtain ⟨a, e1, e3⟩ := o1s hx
  cases e3
  subst hi
  refine ha a e1 H1 e _ fun v H2 g2 r2 => ?_
  obtain ⟨p, u, w, rfl, h2, h3, h4⟩ := r2
  exact ⟨p, _, 0, u, rfl, rfl, SqT.of h2, rfl, q u H2 g2 h3⟩
theorem eb_snd {ma : Option (A × B)} {i : Int} (hi : i = 1) (ha : EvB K ta σ H ma) : EvB K (tOp (rIxT K) ta (tC (.int i))) σ H (o1 (fun x => some x.2) ma) := fun x hx H1 e Q q => by
  obtain ⟨a, e1, e3⟩ := o1s hx
  cases e3
  subst hi
  refine ha a e1 H1 e _ fun v H2 g2 r2 => ?_
  obtain ⟨p, u, w, rfl, h2, h3, h4⟩ := r2
  exact ⟨p, _, 1, w, rfl, rfl, SqT.of h2, rfl, q w H2 g2 h4⟩

/-! tests -/
theorem et_b {m : Option Bool} (h : EvB K te σ H m) : EvT (tB te) σ H m := fun b hb H1 e Q q => h b hb H1 e _ fun v H2 g r => ⟨b, r, q H2 g⟩
theorem et_test {m : Option Bool} (h : EvB K te σ H m) : EvT (tTest te) σ H m := fun b hb H1 e Q q => h b hb H1 e _ fun v H2 g r => ⟨b, r, q H2 g⟩
def oAnd (ma mb : Option Bool) : Option Bool := ma.bind fun a => if a = true then mb else some false
def oOr (ma mb : Option Bool) : Option Bool := ma.bind fun a => if a = true then some true else mb
def oNot (ma : Option Bool) : Option Bool := ma.bind fun a => some (!a)
def oIf {A : Type} (mc : Option Bool) (ma mb : Option A) : Option A := mc.bind fun c => if c = true then ma else mb
theorem ite_tt {P Q : Prop} (h : P) : if true = true then P else Q := by rw [if_pos rfl]; exact h
theorem ite_ff {P Q : Prop} (h : Q) : if false = true then P else Q := by rw [if_neg Bool.false_ne_true]; exact h
theorem et_and {ma mb : Option Bool} (ha : EvT tt σ H ma) (hb : EvT tu σ H mb) : EvT (tAnd tt tu) σ H (oAnd ma mb) := fun b hx H1 e Q q => by
  cases ma with
  | none => cases hx
  | some a =>
    refine ha a rfl H1 e _ fun H2 g2 => ?_
    cases a with
    | true => exact ite_tt (hb b hx H2 (e.trans g2) Q fun H3 g3 => q H3 (g2.trans g3))
    | false => cases hx; exact ite_ff (q H2 g2)
theorem et_or {ma mb : Option Bool} (ha : EvT tt σ H ma) (hb : EvT tu σ H mb) : EvT (tOr tt tu) σ H (oOr ma mb) := fun b hx H1 e Q q => by
  cases ma with
  | none => cases hx
  | some a =>
    refine ha a rfl H1 e _ fun H2 g2 => ?_
    cases a with
    | true => cases hx; exact ite_tt (q H2 g2)
    | false => exact ite_ff (hb b hx H2 (e.trans g2) Q fun H3 g3 => q H3 (g2.trans g3))
theorem et_not {ma : Option Bool} (ha : EvT tt σ H ma) : EvT (tNot tt) σ H (oNot ma) := fun b hx H1 e Q q => by
  cases ma with
  | none => cases hx
  | some a =>
    cases hx
    exact ha a rfl H1 e _ fun H2 g2 => q H2 g2
theorem eb_and {ma mb : Option Bool} (ha : EvB K ta σ H ma) (hb : EvB K tb σ H mb) : EvB K (tAndV ta tb) σ H (oAnd ma mb) := fun b hx H1 e Q q => by
  cases ma with
  | none => cases hx
  | some a =>
    refine ha a rfl H1 e _ fun v H2 g2 r => ⟨a, r, ?_⟩
    cases a with
    | true => exact ite_tt (hb b hx H2 (e.trans g2) Q fun v H3 g3 r3 => q v H3 (g2.trans g3) r3)
    | false => cases hx; exact ite_ff (q _ H2 g2 rfl)
theorem eb_or {ma mb : Option Bool} (ha : EvB K ta σ H ma) (hb : EvB K tb σ H mb) : EvB K (tOrV ta tb) σ H (oOr ma mb) := fun b hx H1 e Q q => by
  cases ma with
  | none => cases hx
  | some a =>
    refine ha a rfl H1 e _ fun v H2 g2 r => ⟨a, r, ?_⟩
    cases a with
    | true => cases hx; exact ite_tt (q _ H2 g2 rfl)
    | false => exact ite_ff (hb b hx H2 (e.trans g2) Q fun v H3 g3 r3 => q v H3 (g2.trans g3) r3)
theorem eb_not {ma : Option Bool} (ha : EvB K ta σ H ma) : EvB K (tNotV ta) σ H (oNot ma) := fun b hx H1 e Q q => by
  cases ma with
  | none => cases hx
  | some a =>
    cases hx
    exact ha a rfl H1 e _ fun v H2 g2 r => ⟨a, r, q _ H2 g2 rfl⟩
theorem eb_if {mc : Option Bool} {ma mb : Option A} (hc : EvT tt σ H mc) (ha : EvB K ta σ H ma) (hb : EvB K tb σ H mb) : EvB K (tIf tt ta tb) σ H (oIf mc ma mb) := fun x hx H1 e Q q => by
  cases mc with
  | none => cases hx
  | some c =>
    refine hc c rfl H1 e _ fun H2 g2 => ?_
    cases c with
    | true => exact ite_tt (ha x hx H2 (e.trans g2) Q fun v H3 g3 r3 => q v H3 (g2.trans g3) r3)
    | false => exact ite_ff (hb x hx H2 (e.trans g2) Q fun v H3 g3 r3 => q v H3 (g2.trans g3) r3)
/-- a chain of two comparisons -/
theorem eb_chain {r r' : R2} {f : A -> B -> Option Bool} {g : B -> C -> Option Bool} {ma : Option A} {mb : Option B} {mc : Option C} (hr : RB K r f) (hr' : RB K r' g) (ha : EvB K ta σ H ma) (hb : EvB K tb σ H mb) (hc : EvB K tc σ H mc) :
    EvB K (tChain r r' ta tb tc) σ H (ma.bind fun a => mb.bind fun b => (f a b).bind fun k => if k = true then mc.bind fun c => g b c else some false) := fun x hx H1 e Q q => by
  cases ma with
  | none => cases hx
  | some a => cases mb with
    | none => cases hx
    | some b =>
      have hx' : ((f a b).bind fun k => if k = true then mc.bind fun c => g b c else some false) = some x := hx
      refine ha a rfl H1 e _ fun v H2 g2 r2 => hb b rfl H2 (e.trans g2) _ fun w H3 g3 r3 => ?_
      cases hf : f a b with
      | none => rw [hf] at hx'; cases hx'
      | some k =>
        rw [hf] at hx'
        refine hr H3 v w a b k (Rp.mono g3 r2) r3 hf _ fun z H4 g4 r4 => ⟨k, r4, ?_⟩
        cases k with
        | true =>
          cases mc with
          | none => cases hx'
          | some c =>
            refine ite_tt (hc c rfl H4 (((e.trans g2).trans g3).trans g4) _ fun u H5 g5 r5 => hr' H5 w u b c x (Rp.mono (g4.trans g5) r3) r5 hx' Q fun o H6 g6 r6 => q o H6 ((((g2.trans g3).trans g4).trans g5).trans g6) r6)
        | false =>
          cases hx'
          exact ite_ff (q _ H4 ((g2.trans g3).trans g4) rfl)

/-! argument lists -/
theorem call1 {r : List V -> Hp -> VK -> Prop} {ma : Option A} {f : A -> Option C} (h : forall H v x c, rp K H v x -> f x = some c -> forall Q : VK, (forall z H2, Gx H H2 -> rp K H2 z c -> Q z H2) -> r [v] H Q) (ha : EvB K ta σ H ma) :
    EvB K (tCB r (tCons ta tNil)) σ H (o1 f ma) := fun x hx H1 e Q q => by
  obtain ⟨a, e1, e3⟩ := o1s hx
  exact ha a e1 H1 e _ fun v H2 g2 r2 => h H2 v a x r2 e3 Q fun z H3 g3 r3 => q z H3 (g2.trans g3) r3
theorem call2 {r : List V -> Hp -> VK -> Prop} {ma : Option A} {mb : Option B} {f : A -> B -> Option C} (h : forall H v w x y c, rp K H v x -> rp K H w y -> f x y = some c -> forall Q : VK, (forall z H2, Gx H H2 -> rp K H2 z c -> Q z H2) -> r [v, w] H Q) (ha : EvB K ta σ H ma) (hb : EvB K tb σ H mb) :
    EvB K (tCB r (tCons ta (tCons tb tNil))) σ H (o2 f ma mb) := fun x hx H1 e Q q => by
  obtain ⟨a, b, e1, e2, e3⟩ := o2s hx
  exact ha a e1 H1 e _ fun v H2 g2 r2 => hb b e2 H2 (e.trans g2) _ fun w H3 g3 r3 => h H3 v w a b x (Rp.mono g3 r2) r3 e3 Q fun z H4 g4 r4 => q z H4 ((g2.trans g3).trans g4) r4
/-- a call that makes a list -/
theorem call1L {r : List V -> Hp -> VK -> Prop} {ma : Option A} {f : A -> Option (List C)} (h : forall H v x c, rp K H v x -> f x = some c -> forall Q : VK, (forall p vs, H p = none -> Al (rp K H) vs c -> Q (.ref p) (upd H p (.lst vs))) -> r [v] H Q) (ha : EvB K ta σ H ma) :
    EvN K (tCB r (tCons ta tNil)) σ H (o1 f ma) := fun x hx H1 e Q q => by
  obtain ⟨a, e1, e3⟩ := o1s hx
  exact ha a e1 H1 e _ fun v H2 g2 r2 => h H2 v a x r2 e3 Q fun p vs hp r3 => q p vs _ (g2.back hp) (g2.trans (Gx.new hp)) upd_same (r3.mono fun _ _ => Rp.mono (Gx.new hp))
end
end Pu

set_option Elab.async false
set_option linter.all false
set_option maxRecDepth 100000
namespace Pu
open Pu.Rp (rp)
open PySem PySem.Spec PyProof.Rows L2
section
variable {K : Fg} {A B C D : Type} [Rp A] [Rp B] [Rp C] [Rp D]
variable {σ : L2.St} {G G' H H' : Hp} {L : Led} {te ta tb tc : TE} {tt tu : TT}

/-! built-in calls -/
theorem eb_lenL {ma : Option (List A)} (ha : EvB K ta σ H ma) : EvB K (tCB (fun xs H Q => ∃ p ys, xs = [.ref p] ∧ (SqL K H p ys ∨ SqT K H p ys) ∧ Q (.int ys.length) H) (tCons ta tNil)) σ H (o1 (fun x => some (x.length : Int)) ma) :=
  call1 (fun H v x c r hc Q q => by
    cases hc
    obtain ⟨p, vs, rfl, h2, h3⟩ := r
    refine ⟨p, vs, rfl, .inl (SqL.of h2), ?_⟩
    rw [h3.len]
    exact q _ H Gx.rfl rfl) ha
theorem eb_lenT {ma : Option (Tl A)} (ha : EvB K ta σ H ma) : EvB K (tCB (fun xs H Q => ∃ p ys, xs = [.ref p] ∧ (SqL K H p ys ∨ SqT K H p ys) ∧ Q (.int ys.length) H) (tCons ta tNil)) σ H (o1 (fun x => some (x.l.length : Int)) ma) :=
  call1 (fun H v x c r hc Q q => by
    cases hc
    obtain ⟨p, vs, rfl, h2, h3⟩ := r
    refine ⟨p, vs, rfl, .inr (SqT.of h2), ?_⟩
    rw [h3.len]
    exact q _ H Gx.rfl rfl) ha
def imax (i j : Int) : Int := if j > i then j else i
def imin (i j : Int) : Int := if j < i then j else i
theorem eb_max2 {ma mb : Option Int} (ha : EvB K ta σ H ma) (hb : EvB K tb σ H mb) : EvB K (tCB (fun xs H Q => ∃ i j, xs = [.int i, .int j] ∧ Q (.int (if j > i then j else i)) H) (tCons ta (tCons tb tNil))) σ H (o2 (fun i j => some (imax i j)) ma mb) :=
  call2 (fun H v w x y c r1 r2 hc Q q => by
    cases hc; cases r1; cases r2
    exact ⟨x, y, rfl, q _ H Gx.rfl rfl⟩) ha hb
theorem eb_min2 {ma mb : Option Int} (ha : EvB K ta σ H ma) (hb : EvB K tb σ H mb) : EvB K (tCB (fun xs H Q => ∃ i j, xs = [.int i, .int j] ∧ Q (.int (if j < i then j else i)) H) (tCons ta (tCons tb tNil))) σ H (o2 (fun i j => some (imin i j)) ma mb) :=
  call2 (fun H v w x y c r1 r2 hc Q q => by
    cases hc; cases r1; cases r2
    exact ⟨x, y, rfl, q _ H Gx.rfl rfl⟩) ha hb
theorem eb_sum {ma : Option (List Int)} (ha : EvB K ta σ H ma) : EvB K (tCB (rSum K) (tCons ta tNil)) σ H (o1 (fun x => some x.sum) ma) :=
  call1 (fun H v x c r hc Q q => by
    cases hc
    obtain ⟨p, vs, rfl, h2, h3⟩ := r
    rw [al_int h3] at h2
    exact ⟨p, x, rfl, SqL.of h2, q _ H Gx.rfl rfl⟩) ha
theorem eb_any {ma : Option (List Bool)} (ha : EvB K ta σ H ma) : EvB K (tCB (rAny K) (tCons ta tNil)) σ H (o1 (fun x => some (x.any id)) ma) :=
  call1 (fun H v x c r hc Q q => by
    cases hc
    obtain ⟨p, vs, rfl, h2, h3⟩ := r
    rw [al_bl h3] at h2
    exact ⟨p, x, rfl, SqL.of h2, q _ H Gx.rfl rfl⟩) ha
theorem eb_all {ma : Option (List Bool)} (ha : EvB K ta σ H ma) : EvB K (tCB (rAll K) (tCons ta tNil)) σ H (o1 (fun x => some (x.all id)) ma) :=
  call1 (fun H v x c r hc Q q => by
    cases hc
    obtain ⟨p, vs, rfl, h2, h3⟩ := r
    rw [al_bl h3] at h2
    exact ⟨p, x, rfl, SqL.of h2, q _ H Gx.rfl rfl⟩) ha
/-- the rising list of a list of ints -/
def isort (x : List Int) : List Int := x.mergeSort (fun a b => decide (a ≤ b))
theorem isort_perm (x : List Int) : (isort x).Perm x := List.mergeSort_perm _ _
theorem isort_le (x : List Int) : (isort x).Pairwise (· ≤ ·) := by
  have h := List.pairwise_mergeSort (le := fun a b : Int => decide (a ≤ b)) (fun a b c h1 h2 => by simp only [decide_eq_true_eq] at *; omega) (fun a b => by simp only [Bool.or_eq_true, decide_eq_true_eq]; omega) x
  exact h.imp fun h => by simpa using h
theorem pw_uniq : forall {xs ys : List Int}, xs.Perm ys -> xs.Pairwise (· ≤ ·) -> ys.Pairwise (· ≤ ·) -> xs = ys := fun {xs ys} p h1 h2 =>
  p.eq_of_pairwise (fun a b _ _ h h' => Int.le_antisymm h h') h1 h2
theorem en_sorted {ma : Option (List Int)} (ha : EvB K ta σ H ma) : EvN K (tCB (rSortedI K) (tCons ta tNil)) σ H (o1 (fun x => some (isort x)) ma) :=
  call1L (fun H v x c r hc Q q => by
    cases hc
    obtain ⟨p, vs, rfl, h2, h3⟩ := r
    rw [al_int h3] at h2
    refine ⟨p, x, rfl, SqL.of h2, fun ns p' hp1 hp2 hn => ?_⟩
    rw [pw_uniq (hp1.trans (isort_perm x).symm) hp2 (isort_le x)]
    exact q p' _ hn (int_al _)) ha
theorem en_list {ma : Option (List A)} (ha : EvB K ta σ H ma) : EvN K (tCB (fun xs H Q => ∃ p ys, xs = [.ref p] ∧ (SqL K H p ys ∨ SqT K H p ys) ∧ ∀ l, H l = none → Q (.ref l) (upd H l (.lst ys))) (tCons ta tNil)) σ H (o1 (fun x => some x) ma) :=
  call1L (fun H v x c r hc Q q => by
    cases hc
    obtain ⟨p, vs, rfl, h2, h3⟩ := r
    exact ⟨p, vs, rfl, .inl (SqL.of h2), fun l hl => q l vs hl h3⟩) ha
theorem en_listT {ma : Option (Tl A)} (ha : EvB K ta σ H ma) : EvN K (tCB (fun xs H Q => ∃ p ys, xs = [.ref p] ∧ (SqL K H p ys ∨ SqT K H p ys) ∧ ∀ l, H l = none → Q (.ref l) (upd H l (.lst ys))) (tCons ta tNil)) σ H (o1 (fun x => some x.l) ma) :=
  call1L (fun H v x c r hc Q q => by
    cases hc
    obtain ⟨p, vs, rfl, h2, h3⟩ := r
    exact ⟨p, vs, rfl, .inr (SqT.of h2), fun l hl => q l vs hl h3⟩) ha
theorem eb_tuple {ma : Option (List A)} (ha : EvB K ta σ H ma) : EvB K (tCB (fun xs H Q => ∃ p ys, xs = [.ref p] ∧ ((SqL K H p ys ∧ ∀ l, H l = none → Q (.ref l) (upd H l (.tup ys))) ∨ (SqT K H p ys ∧ Q (.ref p) H))) (tCons ta tNil)) σ H (o1 (fun x => some (Tl.mk x)) ma) :=
  call1 (fun H v x c r hc Q q => by
    cases hc
    obtain ⟨p, vs, rfl, h2, h3⟩ := r
    exact ⟨p, vs, rfl, .inl ⟨SqL.of h2, fun l hl => q _ _ (Gx.new hl) ⟨l, vs, rfl, upd_same, h3.mono fun _ _ => Rp.mono (Gx.new hl)⟩⟩⟩) ha

/-! displays -/
theorem eb_tup2 {ma : Option A} {mb : Option B} (ha : EvB K ta σ H ma) (hb : EvB K tb σ H mb) : EvB K (tTup (tCons ta (tCons tb tNil))) σ H (o2 (fun a b => some (a, b)) ma mb) := fun x hx H1 e Q q => by
  obtain ⟨a, b, e1, e2, e3⟩ := o2s hx
  cases e3
  refine ha a e1 H1 e _ fun v H2 g2 r2 => hb b e2 H2 (e.trans g2) _ fun w H3 g3 r3 => ⟨by show 2 ≤ sizeLine; decide, fun p hp => ?_⟩
  exact q _ _ ((g2.trans g3).trans (Gx.new hp)) ⟨p, v, w, rfl, upd_same, Rp.mono (g3.trans (Gx.new hp)) r2, Rp.mono (Gx.new hp) r3⟩
theorem eb_tup3 {ma : Option A} {mb : Option B} {mc : Option C} (ha : EvB K ta σ H ma) (hb : EvB K tb σ H mb) (hc : EvB K tc σ H mc) : EvB K (tTup (tCons ta (tCons tb (tCons tc tNil)))) σ H (ma.bind fun a => mb.bind fun b => mc.bind fun c => some (T3.mk a b c)) := fun x hx H1 e Q q => by
  cases ma with
  | none => cases hx
  | some a => cases mb with
    | none => cases hx
    | some b => cases mc with
      | none => cases hx
      | some c =>
        cases hx
        refine ha a rfl H1 e _ fun v H2 g2 r2 => hb b rfl H2 (e.trans g2) _ fun w H3 g3 r3 => hc c rfl H3 ((e.trans g2).trans g3) _ fun z H4 g4 r4 => ⟨by show 3 ≤ sizeLine; decide, fun p hp => ?_⟩
        exact q _ _ (((g2.trans g3).trans g4).trans (Gx.new hp)) ⟨p, v, w, z, rfl, upd_same, Rp.mono ((g3.trans g4).trans (Gx.new hp)) r2, Rp.mono (g4.trans (Gx.new hp)) r3, Rp.mono (Gx.new hp) r4⟩
/-- some expressions of one kind, from the left -/
def EvL (K : Fg) (ta : TA) (σ : L2.St) (H : Hp) (m : Option (List A)) : Prop :=
  forall xs, m = some xs -> forall H1, Gx H H1 -> forall Q : List V -> Hp -> Prop, (forall vs H2, Gx H1 H2 -> Al (rp K H2) vs xs -> Q vs H2) -> ta σ H1 Q
theorem el_nil : EvL (A := A) K tNil σ H (some []) := fun xs hx H1 e Q q => by
  cases hx
  exact q [] H1 Gx.rfl trivial
theorem el_cons {tr : TA} {ma : Option A} {mr : Option (List A)} (ha : EvB K ta σ H ma) (hr : EvL K tr σ H mr) : EvL K (tCons ta tr) σ H (o2 (fun a r => some (a :: r)) ma mr) := fun xs hx H1 e Q q => by
  obtain ⟨a, b, e1, e2, e3⟩ := o2s hx
  cases e3
  exact ha a e1 H1 e _ fun v H2 g2 r2 => hr b e2 H2 (e.trans g2) _ fun vs H3 g3 r3 => q (v :: vs) H3 (g2.trans g3) ⟨Rp.mono g3 r2, r3⟩
def szOk {A : Type} (xs : List A) : Option (List A) := if xs.length ≤ 100000 then some xs else none
theorem szOks {A : Type} {xs ys : List A} (h : szOk xs = some ys) : ys = xs ∧ xs.length ≤ 100000 := by
  unfold szOk at h
  split at h
  · cases h; exact ⟨rfl, by assumption⟩
  · cases h
theorem eb_tupl {tr : TA} {mr : Option (List A)} (h : EvL K tr σ H mr) : EvB K (tTup tr) σ H (o1 (fun x => (szOk x).map Tl.mk) mr) := fun x hx H1 e Q q => by
  obtain ⟨a, e1, e3⟩ := o1s hx
  obtain ⟨b, e4, e5⟩ := Option.map_eq_some_iff.mp e3
  obtain ⟨rfl, hz⟩ := szOks e4
  subst e5
  refine h b e1 H1 e _ fun vs H2 g2 r2 => ⟨by rw [r2.len]; exact Evl.sz_of hz, fun p hp => q _ _ (g2.trans (Gx.new hp)) ⟨p, vs, rfl, upd_same, r2.mono fun _ _ => Rp.mono (Gx.new hp)⟩⟩
theorem en_lst {tr : TA} {mr : Option (List A)} (h : EvL K tr σ H mr) : EvN K (tLst tr) σ H (o1 szOk mr) := fun x hx H1 e Q q => by
  obtain ⟨a, e1, e3⟩ := o1s hx
  obtain ⟨rfl, hz⟩ := szOks e3
  exact h x e1 H1 e _ fun vs H2 g2 r2 => ⟨by rw [r2.len]; exact Evl.sz_of hz, fun p hp => q p vs _ (g2.back hp) (g2.trans (Gx.new hp)) upd_same (r2.mono fun _ _ => Rp.mono (Gx.new hp))⟩

/-! slices -/
def EvP (to : TO) (σ : L2.St) (H : Hp) (m : Option (Option Int)) : Prop := forall o, m = some o -> forall H1, Gx H H1 -> forall Q : Option Int -> Hp -> Prop, (forall H2, Gx H1 H2 -> Q o H2) -> to σ H1 Q
theorem ep_none : EvP tNoPart σ H (some none) := fun o ho H1 e Q q => by
  cases ho
  exact q H1 Gx.rfl
theorem ep_some {m : Option Int} (h : EvB K te σ H m) : EvP (tPart te) σ H (m.map some) := fun o ho H1 e Q q => by
  obtain ⟨a, e1, e2⟩ := Option.map_eq_some_iff.mp ho
  subst e2
  exact h a e1 H1 e _ fun v H2 g r => ⟨a, r, q H2 g⟩
def cutM {A : Type} (xs : List A) (lo hi : Option Int) : List A := (xs.drop (HT.sIx xs.length 0 lo)).take (HT.sIx xs.length xs.length hi - HT.sIx xs.length 0 lo)
theorem al_cut {A : Type} {F : V -> A -> Prop} {vs : List V} {xs : List A} {lo hi : Option Int} (q : Al F vs xs) : Al F (cutV vs lo hi) (cutM xs lo hi) := by
  unfold cutV cutM
  rw [q.len]
  exact (q.drop _).take _
def o3 {A B C D : Type} (f : A -> B -> C -> Option D) (ma : Option A) (mb : Option B) (mc : Option C) : Option D := ma.bind fun a => mb.bind fun b => mc.bind fun c => f a b c
theorem o3s {A B C D : Type} {f : A -> B -> C -> Option D} {ma : Option A} {mb : Option B} {mc : Option C} {d : D} (h : o3 f ma mb mc = some d) : exists a b c, ma = some a ∧ mb = some b ∧ mc = some c ∧ f a b c = some d := by
  cases ma with
  | none => cases h
  | some a => cases mb with
    | none => cases h
    | some b => cases mc with
      | none => cases h
      | some c => exact ⟨a, b, c, rfl, rfl, rfl, h⟩
theorem en_sl {tl th : TO} {ma : Option (List A)} {ml mh : Option (Option Int)} (ha : EvB K te σ H ma) (hl : EvP tl σ H ml) (hh : EvP th σ H mh) : EvN K (tSl (rSlL K) te tl th) σ H (o3 (fun a l h => some (cutM a l h)) ma ml mh) := fun x hx H1 e Q q => by
  obtain ⟨a, l, h, e1, e2, e3, e4⟩ := o3s hx
  cases e4
  refine ha a e1 H1 e _ fun v H2 g2 r2 => hl l e2 H2 (e.trans g2) _ fun H3 g3 => hh h e3 H3 ((e.trans g2).trans g3) _ fun H4 g4 => ?_
  have g5 := (g2.trans g3).trans g4
  obtain ⟨p, vs, rfl, h2, h3⟩ := Rp.mono (g3.trans g4) r2
  exact ⟨p, vs, rfl, SqL.of h2, fun p' hp => q p' _ _ (g5.back hp) (g5.trans (Gx.new hp)) upd_same ((al_cut h3).mono fun _ _ => Rp.mono (Gx.new hp))⟩
/-- a slice of a tuple -/
theorem eb_slT {tl th : TO} {ma : Option (Tl A)} {ml mh : Option (Option Int)} (ha : EvB K te σ H ma) (hl : EvP tl σ H ml) (hh : EvP th σ H mh) : EvB K (tSl (rSlA K) te tl th) σ H (o3 (fun a l h => some (Tl.mk (cutM a.l l h))) ma ml mh) := fun x hx H1 e Q q => by
  obtain ⟨a, l, h, e1, e2, e3, e4⟩ := o3s hx
  cases e4
  refine ha a e1 H1 e _ fun v H2 g2 r2 => hl l e2 H2 (e.trans g2) _ fun H3 g3 => hh h e3 H3 ((e.trans g2).trans g3) _ fun H4 g4 => ?_
  have g5 := (g2.trans g3).trans g4
  obtain ⟨p, vs, rfl, h2, h3⟩ := Rp.mono (g3.trans g4) r2
  refine ⟨p, vs, rfl, SqT.of h2, fun hw => q _ _ g5 ⟨p, vs, rfl, h2, ?_⟩, fun _ p' hp => q _ _ (g5.trans (Gx.new hp)) ⟨p', _, rfl, upd_same, (al_cut h3).mono fun _ _ => Rp.mono (Gx.new hp)⟩⟩
  have e6 : cutM a.l l h = a.l := by
    unfold cutM
    rw [← h3.len, hw.1, hw.2, List.drop_zero, Nat.sub_zero, h3.len]
    exact List.take_length
  rw [e6]
  exact h3
/-- xs + ys, lists -/
theorem en_cat {ma mb : Option (List A)} (ha : EvB K ta σ H ma) (hb : EvB K tb σ H mb) : EvN K (tOp rCat ta tb) σ H (o2 (fun a b => szOk (a ++ b)) ma mb) := fun x hx H1 e Q q => by
  obtain ⟨a, b, e1, e2, e3⟩ := o2s hx
  obtain ⟨rfl, hz⟩ := szOks e3
  refine ha a e1 H1 e _ fun v H2 g2 r2 => hb b e2 H2 (e.trans g2) _ fun w H3 g3 r3 => ?_
  obtain ⟨p, vs, rfl, h2, h3⟩ := Rp.mono g3 r2
  obtain ⟨p2, vs2, rfl, h4, h5⟩ := r3
  have g5 := g2.trans g3
  refine ⟨p, p2, vs, vs2, rfl, rfl, h2, h4, ?_, fun p' hp => q p' _ _ (g5.back hp) (g5.trans (Gx.new hp)) upd_same ((h3.app h5).mono fun _ _ => Rp.mono (Gx.new hp))⟩
  rw [h3.len, h5.len, ← List.length_append]
  exact Evl.sz_of hz
end
end Pu

set_option Elab.async false
set_option linter.all false
set_option maxRecDepth 100000
namespace Pu
open Pu.Rp (rp)
open PySem PySem.Spec PyProof.Rows L2
section
variable {K : Fg} {A B C D : Type} [Rp A] [Rp B] [Rp C] [Rp D]
variable {σ : L2.St} {G G' H H' : Hp} {L : Led} {M : List Addr} {te ta tb tc : TE} {tt tu : TT}

/-! what is walked: M is what a turn may change -/
def mns (H : Hp) (M : List Addr) : Hp := fun b => if b ∈ M then none else H b
theorem mns_ex {H : Hp} {M : List Addr} : Gx (mns H M) H := fun a o h => by
  unfold mns at h
  split at h
  · cases h
  · exact h
theorem mns_nil {H : Hp} : mns H [] = H := by
  funext b
  unfold mns
  rw [if_neg (by simp)]
theorem mns_in {H : Hp} {M : List Addr} {b : Addr} (h : b ∈ M) : mns H M b = none := if_pos h
theorem mns_out {H : Hp} {M : List Addr} {b : Addr} (h : b ∉ M) : mns H M b = H b := if_neg h
theorem mns_mono {H H' : Hp} {M : List Addr} (e : Gx H H') : Gx (mns H M) (mns H' M) := fun a o h => by
  by_cases q : a ∈ M
  · rw [mns_in q] at h; cases h
  · rw [mns_out q] at h; rw [mns_out q]; exact e a o h
/-- B within H, apart from M -/
theorem mns_of {B H : Hp} {M : List Addr} (e : Gx B H) (h : forall p, p ∈ M -> B p = none) : Gx B (mns H M) := fun a o q => by
  have z : a ∉ M := fun y => by rw [h a y] at q; cases q
  rw [mns_out z]
  exact e a o q
/-- a change at one of M -/
theorem mns_upd {S H : Hp} {p : Addr} {o : HO} (e : Gx S H) (hp : S p = none) : Gx S (upd H p o) := Gx.mut e hp
def EvS (K : Fg) (te : TE) (σ : L2.St) (M : List Addr) (H : Hp) (m : Option A) : Prop :=
  forall x, m = some x -> forall H1, Gx H H1 -> forall Q : VK, (forall v H2, Gx H1 H2 -> rp K (mns H2 M) v x -> Q v H2) -> te σ H1 Q
theorem es_v {i : Nat} {v : V} {x : A} {Bs : Hp} (h : σ[i]? = some (some v)) (r : rp K Bs v x) (e : Gx Bs H) (hM : forall p, p ∈ M -> Bs p = none) : EvS K (tVar i) σ M H (some x) := fun y hy H1 e1 Q q => by
  cases hy
  exact ⟨v, h, q v H1 Gx.rfl (Rp.mono (mns_of (e.trans e1) hM) r)⟩
theorem es_o {m : Option A} (h : EvO K te σ G H m) (a : At G H L) (hM : forall p, p ∈ M -> p ∈ L.map (·.1)) : EvS K te σ M H m := fun x hx H1 e1 Q q =>
  h x hx G H1 L Gx.rfl e1 (a.grow e1) Q fun v G2 H2 g2 e2 a2 r => q v H2 e2 (Rp.mono (mns_of a2.ex fun p hp => by
    obtain ⟨o, ho, e⟩ := List.mem_map.mp (hM p hp)
    rw [← e]
    exact (a2.led o ho).2.1) r)
theorem es_b {m : Option A} (h : EvB K te σ H m) : EvS K te σ [] H m := fun x hx H1 e1 Q q => h x hx H1 e1 Q fun v H2 e2 r => q v H2 e2 (by rw [mns_nil]; exact r)
/-- .. of what leans on tuples alone -/
theorem es_im [Im A] {m : Option A} (h : EvB K te σ H m) (hM : forall p, p ∈ M -> exists o, H p = some o ∧ Mu o) : EvS K te σ M H m := fun x hx H1 e1 Q q => h x hx H1 e1 Q fun v H2 e2 r => q v H2 e2 (Im.im (fun a xs ha => by
  have z : a ∉ M := fun y => by
    obtain ⟨o, ho, mu⟩ := hM a y
    have := (e1.trans e2) a o ho
    rw [this] at ha
    rw [Option.some.inj ha] at mu
    exact mu
  rw [mns_out z]
  exact ha) r)
def Wk {I : Type} [Rp I] (K : Fg) (J : It) (xs : List I) (S : Hp) : Prop :=
  (forall i H, i < xs.length -> Gx S H -> J.go i H) ∧ (forall H, Gx S H -> J.stop xs.length H) ∧ (forall i H v H' x, Gx S H -> xs[i]? = some x -> J.yld i H v H' -> Gx H H' ∧ rp K H' v x)
def EvI {I : Type} [Rp I] (K : Fg) (wi : TI) (σ : L2.St) (M : List Addr) (H : Hp) (m : Option (List I)) : Prop :=
  forall xs, m = some xs -> forall H1, Gx H H1 -> forall R : It -> Hp -> Prop, (forall J H2, Gx H1 H2 -> Wk K J xs (mns H2 M) -> R J H2) -> wi σ H1 R
theorem EvS.mono {m : Option A} (h : EvS K te σ M H m) (e : Gx H H') : EvS K te σ M H' m := fun x hx H1 e1 Q q => h x hx H1 (e.trans e1) Q q
theorem wk_list {a : Addr} {vs : List V} {xs : List A} {S : Hp} (h : S a = some (.lst vs)) (r : Al (rp K S) vs xs) : Wk K (Itl K a) xs S :=
  ⟨fun i H hi e => by
    obtain ⟨v, hv, _⟩ := r.get (List.getElem?_eq_getElem hi)
    exact ⟨vs, v, SqL.of (e _ _ h), hv⟩, fun H e => ⟨vs, SqL.of (e _ _ h), by rw [r.len]; exact Nat.le_refl _⟩, fun i H v H' x e hx y => by
    obtain ⟨rfl, y⟩ := y
    obtain ⟨w, hw, rw'⟩ := r.get hx
    have q := y vs (SqL.of (e _ _ h))
    rw [hw] at q
    cases q
    exact ⟨Gx.rfl, Rp.mono e rw'⟩⟩
theorem wk_tup {a : Addr} {vs : List V} {xs : List A} {S : Hp} (h : S a = some (.tup vs)) (r : Al (rp K S) vs xs) : Wk K (Itt K a) xs S :=
  ⟨fun i H hi e => by
    obtain ⟨v, hv, _⟩ := r.get (List.getElem?_eq_getElem hi)
    exact ⟨vs, v, SqT.of (e _ _ h), hv⟩, fun H e => ⟨vs, SqT.of (e _ _ h), by rw [r.len]; exact Nat.le_refl _⟩, fun i H v H' x e hx y => by
    obtain ⟨rfl, y⟩ := y
    obtain ⟨w, hw, rw'⟩ := r.get hx
    have q := y vs (SqT.of (e _ _ h))
    rw [hw] at q
    cases q
    exact ⟨Gx.rfl, Rp.mono e rw'⟩⟩
theorem ei_list {ma : Option (List A)} (h : EvS K ta σ M H ma) : EvI K (iList K ta) σ M H ma := fun xs hx H1 e R q =>
  h xs hx H1 e _ fun v H2 g r => by
    obtain ⟨a, vs, rfl, h2, h3⟩ := r
    exact ⟨a, rfl, ⟨vs, SqL.of (mns_ex _ _ h2)⟩, q _ H2 g (wk_list h2 h3)⟩
theorem ei_tup {ma : Option (Tl A)} (h : EvS K ta σ M H ma) : EvI K (iTup K ta) σ M H (ma.map Tl.l) := fun xs hx H1 e R q => by
  obtain ⟨x, hx1, rfl⟩ := Option.map_eq_some_iff.mp hx
  exact h x hx1 H1 e _ fun v H2 g r => by
    obtain ⟨a, vs, rfl, h2, h3⟩ := r
    exact ⟨a, rfl, ⟨vs, SqT.of (mns_ex _ _ h2)⟩, q _ H2 g (wk_tup h2 h3)⟩
def rng (lo hi : Int) : List Int := (List.range (hi - lo).toNat).map fun i : Nat => lo + (i : Int)
theorem rng_get {lo hi : Int} {i : Nat} {x : Int} (h : (rng lo hi)[i]? = some x) : x = lo + (i : Int) := by
  unfold rng at h
  rw [List.getElem?_map] at h
  obtain ⟨k, hk, rfl⟩ := Option.map_eq_some_iff.mp h
  obtain ⟨_, e⟩ := List.getElem?_eq_some_iff.mp hk
  rw [List.getElem_range] at e
  rw [e]
theorem wk_rng {lo hi : Int} {S : Hp} : Wk K (Itr lo (hi - lo).toNat) (rng lo hi) S := by
  have hl : (rng lo hi).length = (hi - lo).toNat := by unfold rng; rw [List.length_map, List.length_range]
  refine ⟨fun i H h _ => by rw [hl] at h; exact h, fun H _ => by rw [hl]; exact Nat.le_refl _, fun i H v H' x _ hx y => ?_⟩
  obtain ⟨rfl, rfl⟩ := y
  rw [rng_get hx]
  exact ⟨Gx.rfl, rfl⟩
def rgOk (i : Int) : Bool := decide (-(2 ^ 62) ≤ i) && decide (i < 2 ^ 62)
theorem rgOks {i : Int} (h : rgOk i = true) : -(2 ^ 62) ≤ i ∧ i < 2 ^ 62 := by
  unfold rgOk at h
  simpa using h
theorem ei_rng1 {ma : Option Int} (h : EvB K ta σ H ma) : EvI K (iRng1 (tCons ta tNil)) σ M H (ma.bind fun j => if rgOk j = true then some (rng 0 j) else none) := fun xs hx H1 e R q => by
  cases ma with
  | none => cases hx
  | some j =>
    by_cases hj : rgOk j = true
    · have hx' : (if rgOk j = true then some (rng 0 j) else none) = some xs := hx
      rw [if_pos hj] at hx'
      cases hx'
      refine h j rfl H1 e _ fun v H2 g r => ?_
      obtain ⟨h1, h2⟩ := rgOks hj
      refine ⟨j, by rw [show v = .int j from r], h1, h2, q _ H2 g ?_⟩
      have := wk_rng (K := K) (lo := 0) (hi := j) (S := mns H2 M)
      rw [Int.sub_zero] at this
      exact this
    · have hx' : (if rgOk j = true then some (rng 0 j) else none) = some xs := hx
      rw [if_neg hj] at hx'
      cases hx'
theorem ei_rng2 {ma mb : Option Int} (h : EvB K ta σ H ma) (h' : EvB K tb σ H mb) : EvI K (iRng2 (tCons ta (tCons tb tNil))) σ M H (o2 (fun i j => if rgOk i = true ∧ rgOk j = true then some (rng i j) else none) ma mb) := fun xs hx H1 e R q => by
  obtain ⟨i, j, e1, e2, e3⟩ := o2s hx
  by_cases hj : rgOk i = true ∧ rgOk j = true
  · rw [if_pos hj] at e3
    cases e3
    refine h i e1 H1 e _ fun v H2 g r => h' j e2 H2 (e.trans g) _ fun w H3 g3 r3 => ?_
    obtain ⟨h1, h2⟩ := rgOks hj.1
    obtain ⟨h3, h4⟩ := rgOks hj.2
    exact ⟨i, j, by rw [show v = .int i from r, show w = .int j from r3], ⟨h1, h2, h3, h4⟩, q _ H3 (g.trans g3) wk_rng⟩
  · rw [if_neg hj] at e3
    cases e3
/-- two lists side by side -/
theorem wk_zip {a b : Addr} {vs ws : List V} {xs : List A} {ys : List B} {S : Hp} (h : S a = some (.lst vs)) (r : Al (rp K S) vs xs) (h' : S b = some (.lst ws)) (r' : Al (rp K S) ws ys) : Wk K (Itz K a b) (xs.zip ys) S := by
  refine ⟨fun i H hi e => ?_, fun H e => ⟨vs, ws, SqL.of (e _ _ h), SqL.of (e _ _ h'), ?_⟩, fun i H v H' x e hx y => ?_⟩
  · rw [List.length_zip] at hi
    obtain ⟨v, hv, _⟩ := r.get (List.getElem?_eq_getElem (show i < xs.length by omega))
    obtain ⟨w, hw, _⟩ := r'.get (List.getElem?_eq_getElem (show i < ys.length by omega))
    exact ⟨vs, ws, v, w, SqL.of (e _ _ h), SqL.of (e _ _ h'), hv, hw⟩
  · rw [List.length_zip, r.len, r'.len]
    omega
  · obtain ⟨T, x1, y1, rfl, hT, rfl, f1, f2⟩ := y
    have hz := List.getElem?_zip_eq_some.mp hx
    obtain ⟨v, hv, rv⟩ := r.get hz.1
    obtain ⟨w, hw, rw'⟩ := r'.get hz.2
    have q1 := f1 vs (SqL.of (e _ _ h))
    have q2 := f2 ws (SqL.of (e _ _ h'))
    rw [hv] at q1
    rw [hw] at q2
    cases q1; cases q2
    have g := Gx.new (o := HO.tup [x1, y1]) hT
    exact ⟨g, T, x1, y1, rfl, upd_same, Rp.mono (e.trans g) rv, Rp.mono (e.trans g) rw'⟩
theorem ei_zip {ma : Option (List A)} {mb : Option (List B)} (h : EvS K ta σ M H ma) (h' : EvS K tb σ M H mb) : EvI K (iZip K (tCons ta (tCons tb tNil))) σ M H (o2 (fun a b => some (a.zip b)) ma mb) := fun xs hx H1 e R q => by
  obtain ⟨a, b, e1, e2, e3⟩ := o2s hx
  cases e3
  refine h a e1 H1 e _ fun v H2 g r => h' b e2 H2 (e.trans g) _ fun w H3 g3 r3 => ?_
  obtain ⟨p, vs, rfl, h2, h3⟩ := Rp.mono (mns_mono (M := M) g3) r
  obtain ⟨p', ws, rfl, h4, h5⟩ := r3
  exact ⟨p, p', vs, ws, rfl, SqL.of (mns_ex _ _ h2), SqL.of (mns_ex _ _ h4), q _ H3 (g.trans g3) (wk_zip h2 h3 h4 h5)⟩
/-- enumerate -/
def enum {A : Type} (xs : List A) : List (Int × A) := (List.range xs.length).map (fun i : Nat => (i : Int)) |>.zip xs
theorem enum_len {A : Type} (xs : List A) : (enum xs).length = xs.length := by
  unfold enum
  rw [List.length_zip, List.length_map, List.length_range, Nat.min_self]
theorem wk_enum {a : Addr} {vs : List V} {xs : List A} {S : Hp} (h : S a = some (.lst vs)) (r : Al (rp K S) vs xs) : Wk K (Ite K a) (enum xs) S := by
  have w := walk_enum (K := K) (a := a) (xs := vs)
  refine ⟨fun i H hi e => w.goes i H (by rw [r.len, ← enum_len]; exact hi) (SqL.of (e _ _ h)), fun H e => ?_, fun i H v H' x e hx y => ?_⟩
  · rw [enum_len, ← r.len]
    exact w.stops H (SqL.of (e _ _ h))
  · have hi : i < (enum xs).length := (List.getElem?_eq_some_iff.mp hx).1
    obtain ⟨T, x1, y1, rfl, hT, rfl, f1, f2⟩ := w.yields i H v H' (by rw [r.len, ← enum_len]; exact hi) (SqL.of (e _ _ h)) y
    unfold enum at hx
    have hz := List.getElem?_zip_eq_some.mp hx
    obtain ⟨v, hv, rv⟩ := r.get hz.2
    have f2' : vs[i]? = some y1 := f2
    have f1' : some (V.int (i : Nat)) = some x1 := f1
    rw [hv] at f2'
    cases f2'; cases f1'
    have g := Gx.new (o := HO.tup [V.int (i : Nat), y1]) hT
    refine ⟨g, T, _, y1, rfl, upd_same, ?_, Rp.mono (e.trans g) rv⟩
    have h1 := hz.1
    rw [List.getElem?_map] at h1
    obtain ⟨k, hk, e1⟩ := Option.map_eq_some_iff.mp h1
    obtain ⟨_, e2⟩ := List.getElem?_eq_some_iff.mp hk
    rw [List.getElem_range] at e2
    show V.int (i : Nat) = V.int x.1
    rw [← e1, e2]
theorem ei_enum {ma : Option (List A)} (h : EvS K ta σ M H ma) : EvI K (iEnum K (tCons ta tNil)) σ M H (ma.map enum) := fun xs hx H1 e R q => by
  obtain ⟨x, hx1, rfl⟩ := Option.map_eq_some_iff.mp hx
  exact h x hx1 H1 e _ fun v H2 g r => by
    obtain ⟨a, vs, rfl, h2, h3⟩ := r
    exact ⟨a, vs, rfl, SqL.of (mns_ex _ _ h2), q _ H2 g (wk_enum h2 h3)⟩

/-! targets -/
abbrev Bd (I : Type) := I -> L2.St -> Hp -> L2.St -> Prop
def bN (A : Type) [Rp A] (K : Fg) (j : Nat) : Bd A := fun x σ H σ2 => exists v, rp K H v x ∧ σ2 = σ.set j (some v)
def bP {A B : Type} (b1 : Bd A) (b2 : Bd B) : Bd (A × B) := fun x σ H σ2 => exists σ1, b1 x.1 σ H σ1 ∧ b2 x.2 σ1 H σ2
def b3 {A B C : Type} (b1 : Bd A) (b2 : Bd B) (b3 : Bd C) : Bd (T3 A B C) := fun x σ H σ2 => exists σ1 σ3, b1 x.a σ H σ1 ∧ b2 x.b σ1 H σ3 ∧ b3 x.c σ3 H σ2
def TgOk {I : Type} [Rp I] (K : Fg) (g : TG) (b : Bd I) : Prop := forall x v σ H (Q : L2.St -> Hp -> Prop), rp K H v x -> (forall σ2, b x σ H σ2 -> Q σ2 H) -> g v σ H Q
theorem tg_n {j : Nat} : TgOk K (gName j) (bN A K j) := fun x v σ H Q r q => q _ ⟨v, r, rfl⟩
theorem tg_p {g1 g2 : TG} {b1 : Bd A} {b2 : Bd B} (h1 : TgOk K g1 b1) (h2 : TgOk K g2 b2) : TgOk K (gTup K 2 (gCons g1 (gCons g2 gNil))) (bP b1 b2) := fun x v σ H Q r q => by
  obtain ⟨a, u, w, rfl, e, r1, r2⟩ := r
  refine ⟨a, [u, w], rfl, SqT.of e, rfl, u, [w], rfl, h1 x.1 u σ H _ r1 fun σ1 q1 => ⟨w, [], rfl, h2 x.2 w σ1 H _ r2 fun σ2 q2 => ⟨rfl, q σ2 ⟨σ1, q1, q2⟩⟩⟩⟩
theorem tg_3 {g1 g2 g3 : TG} {b1 : Bd A} {b2 : Bd B} {b3' : Bd C} (h1 : TgOk K g1 b1) (h2 : TgOk K g2 b2) (h3 : TgOk K g3 b3') : TgOk K (gTup K 3 (gCons g1 (gCons g2 (gCons g3 gNil)))) (b3 b1 b2 b3') := fun x v σ H Q r q => by
  obtain ⟨a, u, w, z, rfl, e, r1, r2, r3⟩ := r
  refine ⟨a, [u, w, z], rfl, SqT.of e, rfl, u, [w, z], rfl, h1 x.a u σ H _ r1 fun σ1 q1 => ⟨w, [z], rfl, h2 x.b w σ1 H _ r2 fun σ2 q2 => ⟨z, [], rfl, h3 x.c z σ2 H _ r3 fun σ3 q3 => ⟨rfl, q σ3 ⟨σ1, σ2, q1, q2, q3⟩⟩⟩⟩⟩
/-- the block's own slots alone are set -/
theorem wipe_sets : forall {vs : List Nat} {σ : L2.St} {j : Nat} {o : Option V}, j ∈ vs -> wipe (σ.set j o) vs = wipe σ vs
  | [], _, _, _, h => nomatch h
  | k :: vs, σ, j, o, h => by
    by_cases e : j ∈ vs
    · show (wipe (σ.set j o) vs).set k none = (wipe σ vs).set k none
      rw [wipe_sets e]
    · have ek : j = k := (List.mem_cons.mp h).elim id fun z => absurd z e
      subst ek
      have c : wipe (σ.set j o) vs = (wipe σ vs).set j o := by
        clear h
        induction vs with
        | nil => rfl
        | cons k vs ih =>
          simp only [List.mem_cons, not_or] at e
          show (wipe (σ.set j o) vs).set k none = ((wipe σ vs).set k none).set j o
          rw [ih e.2, List.set_comm _ _ e.1]
      show (wipe (σ.set j o) vs).set j none = (wipe σ vs).set j none
      rw [c, List.set_set]
theorem wipe_wipe (σ : L2.St) : forall vs : List Nat, wipe (wipe σ vs) vs = wipe σ vs := by
  have h : forall (ws vs : List Nat), (forall j, j ∈ ws -> j ∈ vs) -> wipe (wipe σ ws) vs = wipe σ vs := by
    intro ws
    induction ws with
    | nil => intro vs _; rfl
    | cons k ws ih =>
      intro vs hs
      show wipe ((wipe σ ws).set k none) vs = wipe σ vs
      rw [wipe_sets (hs k List.mem_cons_self)]
      exact ih vs fun j hj => hs j (List.mem_cons_of_mem _ hj)
  exact fun vs => h vs vs fun _ z => z
def BdIn {I : Type} (b : Bd I) (vs : List Nat) : Prop := forall x σ H σ2, b x σ H σ2 -> wipe σ2 vs = wipe σ vs
theorem bi_n {vs : List Nat} {j : Nat} (h : j ∈ vs) : BdIn (bN A K j) vs := fun x σ H σ2 ⟨v, _, e⟩ => by rw [e]; exact wipe_sets h
theorem bi_p {vs : List Nat} {b1 : Bd A} {b2 : Bd B} (h1 : BdIn b1 vs) (h2 : BdIn b2 vs) : BdIn (bP b1 b2) vs := fun x σ H σ2 ⟨σ1, q1, q2⟩ => (h2 _ _ _ _ q2).trans (h1 _ _ _ _ q1)
theorem bi_3 {vs : List Nat} {b1 : Bd A} {b2 : Bd B} {b3' : Bd C} (h1 : BdIn b1 vs) (h2 : BdIn b2 vs) (h3 : BdIn b3' vs) : BdIn (b3 b1 b2 b3') vs := fun x σ H σ2 ⟨σ1, σ3, q1, q2, q3⟩ => ((h3 _ _ _ _ q3).trans (h2 _ _ _ _ q2)).trans (h1 _ _ _ _ q1)

/-! comprehensions -/
def comp {I A : Type} (c : I -> Option Bool) (f : I -> Option A) : List I -> Option (List A)
  | [] => some []
  | x :: xs => (c x).bind fun b => if b = true then (f x).bind fun y => (comp c f xs).bind fun r => some (y :: r) else comp c f xs
theorem comp_cons {I A : Type} {c : I -> Option Bool} {f : I -> Option A} {x : I} {xs : List I} {r : List A} (h : comp c f (x :: xs) = some r) :
    (c x = some true ∧ exists y r', f x = some y ∧ comp c f xs = some r' ∧ r = y :: r') ∨ (c x = some false ∧ comp c f xs = some r) := by
  unfold comp at h
  cases hc : c x with
  | none => rw [hc] at h; cases h
  | some b =>
    rw [hc] at h
    cases b with
    | true =>
      have h' : ((f x).bind fun y => (comp c f xs).bind fun r => some (y :: r)) = some r := h
      cases hf : f x with
      | none => rw [hf] at h'; cases h'
      | some y =>
        rw [hf] at h'
        have h2 : ((comp c f xs).bind fun r => some (y :: r)) = some r := h'
        cases hr : comp c f xs with
        | none => rw [hr] at h2; cases h2
        | some r' =>
          rw [hr] at h2
          exact .inl ⟨rfl, y, r', rfl, rfl, (Option.some.inj h2).symm⟩
    | false => exact .inr ⟨rfl, h⟩
theorem comp_len {I A : Type} {c : I -> Option Bool} {f : I -> Option A} : forall {xs : List I} {r : List A}, comp c f xs = some r -> r.length ≤ xs.length
  | [], r, h => by cases h; exact Nat.le_refl _
  | x :: xs, r, h => by
    rcases comp_cons h with ⟨_, y, r', _, h2, rfl⟩ | ⟨_, h2⟩
    · have := comp_len h2
      simp only [List.length_cons]; omega
    · have := comp_len h2
      simp only [List.length_cons]; omega
def lim {A : Type} (n : Nat) (xs : List A) : Option (List A) := if xs.length ≤ n then some xs else none
/-- the items as they stand at each turn -/
theorem en_lc {I : Type} [Rp I] [Im A] {wi : TI} {g : TG} {b : Bd I} {vs : List Nat} {mx : Option (List I)} {c : I -> Option Bool} {f : I -> Option A} (hi : EvI K wi σ [] H mx) (hg : TgOk K g b) (hb : BdIn b vs)
    (ht : forall x σ2 H', Gx H H' -> b x (wipe σ vs) H' σ2 -> EvT tt σ2 H' (c x)) (he : forall x σ2 H', Gx H H' -> b x (wipe σ vs) H' σ2 -> EvB K te σ2 H' (f x)) :
    EvN K (tLc wi g tt te vs) σ H (mx.bind fun xs => (lim 100000 xs).bind (comp c f)) := fun r hr H1 e1 Q q => by
  cases mx with
  | none => cases hr
  | some xs =>
    have hr' : (lim 100000 xs).bind (comp c f) = some r := hr
    unfold lim at hr'
    by_cases hz : xs.length ≤ 100000
    · rw [if_pos hz] at hr'
      have hr2 : comp c f xs = some r := hr'
      refine hi xs rfl H1 e1 _ fun J H2 e2 wk => ?_
      rw [mns_nil] at wk
      intro D hD
      obtain ⟨go, stop, yld⟩ := wk
      -- what is left
      refine ⟨fun i m Hc => m = xs.length - i ∧ i ≤ xs.length ∧ Gx H2 Hc ∧ exists vs' ys r', Hc D = some (.lst vs') ∧ Al (rp K Hc) vs' ys ∧ ys.length ≤ i ∧ comp c f (xs.drop i) = some r' ∧ r = ys ++ r',
        ⟨xs.length, by simp, Nat.zero_le _, Gx.new hD, [], [], r, upd_same, trivial, Nat.le_refl _, hr2, rfl⟩, ?_⟩
      rintro i m Hc ⟨rfl, hle, gc, vs', ys, r', hDc, ral, hlen, hcomp, rfl⟩
      by_cases hlt : i < xs.length
      · refine .inr ⟨go i Hc hlt gc, fun Hn => i + 1 ≤ xs.length ∧ Gx H2 Hn ∧ exists vs' ys' r'', Hn D = some (.lst vs') ∧ Al (rp K Hn) vs' ys' ∧ ys'.length ≤ i + 1 ∧ comp c f (xs.drop (i + 1)) = some r'' ∧ ys ++ r' = ys' ++ r'',
          fun Hn hn => ⟨xs.length - (i + 1), by omega, rfl, hn.1, hn.2⟩, fun v Hy hy => ?_⟩
        have hx := List.getElem?_eq_getElem hlt
        obtain ⟨gy, ry⟩ := yld i Hc v Hy _ gc hx hy
        have gH : Gx H Hy := (e1.trans e2).trans (gc.trans gy)
        refine hg _ v (wipe σ vs) Hy _ ry fun σ2 hσ => ⟨(hb _ _ _ _ hσ).trans (wipe_wipe σ vs), ?_⟩
        rw [List.drop_eq_getElem_cons hlt] at hcomp
        rcases comp_cons hcomp with ⟨hc, y, r2, hf, h2, rfl⟩ | ⟨hc, h2⟩
        · refine ht _ σ2 Hy gH hσ true hc Hy Gx.rfl _ fun H3 g3 => ite_tt ?_
          refine he _ σ2 Hy gH hσ y hf H3 g3 _ fun u H4 g4 r4 => ?_
          have gD := gy.trans (g3.trans g4)
          have h4 : H4 D = some (.lst vs') := gD _ _ hDc
          have tx : Tx H4 (upd H4 D (.lst (vs' ++ [u]))) := Tx.mut fun xs q => by rw [h4] at q; cases q
          refine ⟨vs', h4, ?_, hlt, (gc.trans gD).mut hD, vs' ++ [u], ys ++ [y], r2, upd_same, ?_, ?_, h2, by simp⟩
          · rw [ral.len]; exact Evl.sz_lt (by omega)
          · exact ((ral.mono fun _ _ => Rp.mono gD).app (Al.one r4)).mono fun _ _ => Im.im tx
          · rw [List.length_append]; simp only [List.length_cons, List.length_nil]; omega
        · refine ht _ σ2 Hy gH hσ false hc Hy Gx.rfl _ fun H3 g3 => ite_ff ?_
          exact ⟨hlt, (gc.trans gy).trans g3, vs', ys, r', (gy.trans g3) _ _ hDc, ral.mono fun _ _ => Rp.mono (gy.trans g3), by omega, h2, rfl⟩
      · have hi : i = xs.length := by omega
        subst hi
        rw [List.drop_length] at hcomp
        cases hcomp
        rw [List.append_nil] at *
        exact .inl ⟨stop Hc gc, q D vs' Hc (e2.back hD) (e2.trans gc) hDc ral⟩
    · rw [if_neg hz] at hr'
      cases hr'
end
end Pu

set_option Elab.async false
set_option linter.all false
set_option maxRecDepth 100000
namespace Pu
open Pu.Rp (rp)
open PySem PySem.Spec PyProof.Rows L2
/-! the ledger's moves -/
theorem nd_mid {A : Type} {p : A} : forall {a b : List A}, (a ++ p :: b).Nodup -> p ∉ a ++ b ∧ (a ++ b).Nodup
  | [], b, h => by
    have := List.nodup_cons.mp h
    exact this
  | x :: a, b, h => by
    have h' := List.nodup_cons.mp h
    have ih := nd_mid h'.2
    have hx : x ∉ a ++ p :: b := h'.1
    refine ⟨fun z => ?_, List.nodup_cons.mpr ⟨fun z => hx ?_, ih.2⟩⟩
    · rcases List.mem_cons.mp z with e | z
      · exact hx (by rw [← e]; simp)
      · exact ih.1 z
    · rcases List.mem_append.mp z with z | z
      · exact List.mem_append_left _ z
      · exact List.mem_append_right _ (List.mem_cons_of_mem _ z)
theorem At.add {G H : Hp} {L : Led} {p : Addr} {o : HO} (A : At G H L) (h : H p = none) (m : Mu o) : At G (upd H p o) ((p, o) :: L) := by
  have e : Gx H (upd H p o) := Gx.new h
  refine ⟨A.ex.trans e, List.nodup_cons.mpr ⟨fun z => ?_, A.nd⟩, fun q hq => ?_⟩
  · obtain ⟨r, hr, er⟩ := List.mem_map.mp z
    have := (A.led r hr).1
    rw [er, h] at this
    cases this
  · rcases List.mem_cons.mp hq with rfl | hq
    · exact ⟨upd_same, A.ex.back h, m⟩
    · exact ⟨e _ _ (A.led q hq).1, (A.led q hq).2⟩
theorem At.set {G H : Hp} {L1 L2 : Led} {p : Addr} {o o' : HO} (A : At G H (L1 ++ (p, o) :: L2)) (m : Mu o') : At G (upd H p o') (L1 ++ (p, o') :: L2) := by
  have nd := A.nd
  rw [List.map_append, List.map_cons] at nd
  have ne : forall q, q ∈ L1 ++ L2 -> q.1 ≠ p := fun q hq e => by
    have n2 := nd_mid nd
    refine n2.1 ?_
    rw [← List.map_append]
    exact List.mem_map.mpr ⟨q, hq, e⟩
  have hp := A.led (p, o) (by simp)
  refine ⟨A.ex.mut hp.2.1, by rw [List.map_append, List.map_cons]; exact nd, fun q hq => ?_⟩
  rcases List.mem_append.mp hq with h1 | h1
  · have z := A.led q (List.mem_append_left _ h1)
    exact ⟨by rw [upd_ne (ne q (List.mem_append_left _ h1))]; exact z.1, z.2⟩
  · rcases List.mem_cons.mp h1 with rfl | h2
    · exact ⟨upd_same, hp.2.1, m⟩
    · have z := A.led q (List.mem_append_right _ (List.mem_cons_of_mem _ h2))
      exact ⟨by rw [upd_ne (ne q (List.mem_append_right _ h2))]; exact z.1, z.2⟩
theorem At.frz {G H : Hp} {L1 L2 : Led} {p : Addr} {o : HO} (A : At G H (L1 ++ (p, o) :: L2)) : Gx G (upd G p o) ∧ At (upd G p o) H (L1 ++ L2) := by
  have nd := A.nd
  rw [List.map_append, List.map_cons] at nd
  have n2 := nd_mid nd
  have hp := A.led (p, o) (by simp)
  refine ⟨Gx.new hp.2.1, fun a u h => ?_, by rw [List.map_append]; exact n2.2, fun q hq => ?_⟩
  · by_cases e : a = p
    · rw [e, upd_same] at h
      cases h
      rw [e]; exact hp.1
    · rw [upd_ne e] at h
      exact A.ex a u h
  · have hq' : q ∈ L1 ++ (p, o) :: L2 := by
      rcases List.mem_append.mp hq with h1 | h1
      · exact List.mem_append_left _ h1
      · exact List.mem_append_right _ (List.mem_cons_of_mem _ h1)
    have z := A.led q hq'
    refine ⟨z.1, ?_, z.2.2⟩
    rw [upd_ne]
    · exact z.2.1
    · intro e
      refine n2.1 ?_
      rw [← List.map_append]
      exact List.mem_map.mpr ⟨q, hq, e⟩
theorem At.drop {G H : Hp} {L1 L2 : Led} (A : At G H (L1 ++ L2)) : At G H L2 :=
  ⟨A.ex, by have := A.nd; rw [List.map_append] at this; exact (List.nodup_append.mp this).2.1, fun q hq => A.led q (List.mem_append_right _ hq)⟩
section
variable {K : Fg} {A B C D : Type} [Rp A] [Rp B] [Rp C] [Rp D]
variable {σ : L2.St} {G G' H H' : Hp} {L L1 L2' : Led} {M : List Addr} {te ta tb tc : TE} {tt tu : TT} {X : Ends} {t1 t2 u : TS} {i : Nat}
theorem mv_rp {p : Addr} {vs : List V} {xs : List A} (a : At G H L) (hp : (p, HO.lst vs) ∈ L) (r : Al (rp K G) vs xs) : rp K H (.ref p) xs :=
  ⟨p, vs, rfl, (a.led _ hp).1, r.mono fun _ _ => Rp.mono a.ex⟩

/-! statements -/
theorem st_asg {m : Option A} {x : A} (h : EvO K te σ G H m) (hm : m = some x) (a : At G H L) (k : forall v G2 H2, Gx G G2 -> Gx H H2 -> At G2 H2 L -> rp K G2 v x -> u X (σ.set i (some v)) H2) : tSeq (tAsg te (gName i)) u X σ H :=
  h x hm G H L Gx.rfl Gx.rfl a _ fun v G2 H2 g e a2 r => k v G2 H2 g e a2 r
/-- a name that reads what others hold -/
theorem st_asgB {m : Option A} {x : A} (h : EvB K te σ H m) (hm : m = some x) (k : forall v H2, Gx H H2 -> rp K H2 v x -> u X (σ.set i (some v)) H2) : tSeq (tAsg te (gName i)) u X σ H :=
  h x hm H Gx.rfl _ fun v H2 e r => k v H2 e r
/-- names for the parts -/
theorem st_asgP {g : TG} {b : Bd A} {m : Option A} {x : A} (h : EvB K te σ H m) (hm : m = some x) (hg : TgOk K g b) (k : forall σ2 H2, Gx H H2 -> b x σ H2 σ2 -> u X σ2 H2) : tSeq (tAsg te g) u X σ H :=
  h x hm H Gx.rfl _ fun v H2 e r => hg x v σ H2 _ r fun σ2 q => k σ2 H2 e q
theorem st_new (a : At G H L) (k : forall p, H p = none -> At G (upd H p (.lst [])) ((p, .lst []) :: L) -> u X (σ.set i (some (.ref p))) (upd H p (.lst []))) : tSeq (tAsg (tLst tNil) (gName i)) u X σ H :=
  ⟨Nat.zero_le _, fun p hp => k p hp (a.add hp trivial)⟩
/-- a list that is one's own to change from now on -/
theorem st_newL {m : Option (List A)} {x : List A} (h : EvO K te σ G H m) (hm : m = some x) (a : At G H L) (k : forall p vs G2 H2, Gx G G2 -> Gx H H2 -> At G2 H2 L -> G2 p = some (.lst vs) -> Al (rp K G2) vs x -> u X (σ.set i (some (.ref p))) H2) : tSeq (tAsg te (gName i)) u X σ H :=
  h x hm G H L Gx.rfl Gx.rfl a _ fun v G2 H2 g e a2 r => by
    obtain ⟨p, vs, rfl, h2, h3⟩ := r
    exact k p vs G2 H2 g e a2 h2 h3
theorem st_app {p : Addr} {vs : List V} {m : Option A} {x : A} (hs : forall H1, Gx H H1 -> forall Q : VK, Q (.ref p) H1 -> ta σ H1 Q) (h : EvO K te σ G H m) (hm : m = some x) (a : At G H (L1 ++ (p, .lst vs) :: L2')) (hz : vs.length < 100000)
    (k : forall v G2 H2, Gx G G2 -> Gx H H2 -> At G2 (upd H2 p (.lst (vs ++ [v]))) (L1 ++ (p, .lst (vs ++ [v])) :: L2') -> rp K G2 v x -> u X σ (upd H2 p (.lst (vs ++ [v])))) :
    tSeq (tDrop (tBM K "list" rAppend ta (tCons te tNil))) u X σ H := by
  have hp := (a.led (p, .lst vs) (by simp)).1
  refine hs H Gx.rfl _ ⟨Or.inl ⟨rfl, vs, SqL.of hp⟩, h x hm G H _ Gx.rfl Gx.rfl a _ fun v G2 H2 g e a2 r => ⟨p, vs, v, rfl, rfl, e _ _ hp, Evl.sz_lt hz, k v G2 H2 g e ?_ r⟩⟩
  exact a2.set trivial
theorem slot_ref {p : Addr} (h : σ[i]? = some (some (.ref p))) : forall H1, Gx H H1 -> forall Q : VK, Q (.ref p) H1 -> tVar i σ H1 Q := fun H1 _ Q q => ⟨_, h, q⟩
theorem st_reverse {p : Addr} {vs : List V} (hs : forall H1, Gx H H1 -> forall Q : VK, Q (.ref p) H1 -> ta σ H1 Q) (a : At G H (L1 ++ (p, .lst vs) :: L2'))
    (k : At G (upd H p (.lst vs.reverse)) (L1 ++ (p, .lst vs.reverse) :: L2') -> u X σ (upd H p (.lst vs.reverse))) : tSeq (tDrop (tBM0 K "list" rReverse ta)) u X σ H := by
  have hp := (a.led (p, .lst vs) (by simp)).1
  exact hs H Gx.rfl _ ⟨Or.inl ⟨rfl, vs, SqL.of hp⟩, p, vs, rfl, rfl, hp, k (a.set trivial)⟩
theorem st_clear {p : Addr} {vs : List V} (hs : forall H1, Gx H H1 -> forall Q : VK, Q (.ref p) H1 -> ta σ H1 Q) (a : At G H (L1 ++ (p, .lst vs) :: L2'))
    (k : At G (upd H p (.lst [])) (L1 ++ (p, .lst []) :: L2') -> u X σ (upd H p (.lst []))) : tSeq (tDrop (tBM0 K "list" rClear ta)) u X σ H := by
  have hp := (a.led (p, .lst vs) (by simp)).1
  exact hs H Gx.rfl _ ⟨Or.inl ⟨rfl, vs, SqL.of hp⟩, p, vs, rfl, rfl, hp, k (a.set trivial)⟩
/-- xs.extend(ys), ys a list just made or one's own -/
theorem st_extend {p : Addr} {vs : List V} {m : Option (List A)} {x : List A} (hs : forall H1, Gx H H1 -> forall Q : VK, Q (.ref p) H1 -> ta σ H1 Q) (h : EvO K te σ G H m) (hm : m = some x) (a : At G H (L1 ++ (p, .lst vs) :: L2')) (hz : vs.length + x.length ≤ 100000)
    (k : forall ws G2 H2, Gx G G2 -> Gx H H2 -> At G2 (upd H2 p (.lst (vs ++ ws))) (L1 ++ (p, .lst (vs ++ ws)) :: L2') -> Al (rp K G2) ws x -> u X σ (upd H2 p (.lst (vs ++ ws)))) :
    tSeq (tDrop (tBM K "list" rExtend ta (tCons te tNil))) u X σ H := by
  have hp := (a.led (p, .lst vs) (by simp)).1
  refine hs H Gx.rfl _ ⟨Or.inl ⟨rfl, vs, SqL.of hp⟩, h x hm G H _ Gx.rfl Gx.rfl a _ fun v G2 H2 g e a2 r => ?_⟩
  obtain ⟨b, ws, rfl, h2, h3⟩ := r
  exact ⟨p, b, vs, ws, rfl, rfl, e _ _ hp, a2.ex _ _ h2, by rw [h3.len]; exact Evl.sz_of hz, k ws G2 H2 g e (a2.set trivial) h3⟩
/-- xs[i] = e -/
theorem st_setL {p : Addr} {vs : List V} {m : Option A} {x : A} {mi : Option Int} {n : Int} {j : Nat} (h : EvO K te σ G H m) (hm : m = some x) (hs : forall H1, Gx H H1 -> forall Q : VK, Q (.ref p) H1 -> ta σ H1 Q) (hi : EvB K tb σ H mi) (hn : mi = some n)
    (a : At G H (L1 ++ (p, .lst vs) :: L2')) (hj : ixN vs.length n = some j)
    (k : forall v G2 H2, Gx G G2 -> Gx H H2 -> At G2 (upd H2 p (.lst (vs.set j v))) (L1 ++ (p, .lst (vs.set j v)) :: L2') -> rp K G2 v x -> u X σ (upd H2 p (.lst (vs.set j v)))) :
    tSeq (tAsg te (gSub ta tb rSetL)) u X σ H := by
  have hp := (a.led (p, .lst vs) (by simp)).1
  refine h x hm G H _ Gx.rfl Gx.rfl a _ fun v G2 H2 g e a2 r => hs H2 e _ ?_
  refine hi n hn H2 e _ fun w H3 e3 rw' => ⟨p, vs, n, j, rfl, rw', e3 _ _ (e _ _ hp), hj, k v G2 H3 g (e.trans e3) (a2.grow e3 |>.set trivial) r⟩
/-- a, b = xs.pop() -/
theorem st_popP {p : Addr} {vs : List V} {xs : List A} {x : A} {g : TG} {b : Bd A} (hs : forall H1, Gx H H1 -> forall Q : VK, Q (.ref p) H1 -> ta σ H1 Q) (a : At G H (L1 ++ (p, .lst vs) :: L2')) (r : Al (rp K G) vs xs) (hx : xs[xs.length - 1]? = some x) [Im A] (hg : TgOk K g b)
    (k : forall σ2, At G (upd H p (.lst vs.dropLast)) (L1 ++ (p, .lst vs.dropLast) :: L2') -> b x σ (upd H p (.lst vs.dropLast)) σ2 -> u X σ2 (upd H p (.lst vs.dropLast))) : tSeq (tAsg (tBM0 K "list" rPop ta) g) u X σ H := by
  have hp := (a.led (p, .lst vs) (by simp)).1
  obtain ⟨v, hv, rv⟩ := r.get hx
  rw [← r.len] at hv
  refine hs H Gx.rfl _ ⟨Or.inl ⟨rfl, vs, SqL.of hp⟩, p, vs, v, rfl, rfl, hp, hv, ?_⟩
  exact hg x v σ _ _ (Rp.mono (a.set trivial : At G (upd H p (.lst vs.dropLast)) _).ex rv) fun σ2 q => k σ2 (a.set trivial) q
theorem st_drop {m : Option A} {x : A} (h : EvB K te σ H m) (hm : m = some x) (k : forall H2, Gx H H2 -> u X σ H2) : tSeq (tDrop te) u X σ H := h x hm H Gx.rfl _ fun _ H2 e _ => k H2 e
theorem st_retO {m : Option A} {x : A} (h : EvO K te σ G H m) (hm : m = some x) (a : At G H L) (k : forall v G2 H2, Gx G G2 -> Gx H H2 -> At G2 H2 L -> rp K G2 v x -> X.rt v H2) : tRet te X σ H :=
  h x hm G H L Gx.rfl Gx.rfl a _ k
theorem st_if {m : Option Bool} {b : Bool} (h : EvT tt σ H m) (hm : m = some b) (k1 : b = true -> forall H2, Gx H H2 -> t1 { X with nx := u X } σ H2) (k2 : b = false -> forall H2, Gx H H2 -> t2 { X with nx := u X } σ H2) : tSeq (tIfS tt t1 t2) u X σ H :=
  h b hm H Gx.rfl _ fun H2 e => by
    cases b with
    | true => exact ite_tt (k1 rfl H2 e)
    | false => exact ite_ff (k2 rfl H2 e)
/-- an if at a block's end -/
theorem s1_if {m : Option Bool} {b : Bool} (h : EvT tt σ H m) (hm : m = some b) (k1 : b = true -> forall H2, Gx H H2 -> t1 X σ H2) (k2 : b = false -> forall H2, Gx H H2 -> t2 X σ H2) : tIfS tt t1 t2 X σ H :=
  h b hm H Gx.rfl _ fun H2 e => by
    cases b with
    | true => exact ite_tt (k1 rfl H2 e)
    | false => exact ite_ff (k2 rfl H2 e)
theorem st_one (h : tSeq t1 tNext X σ H) : t1 X σ H := h
theorem st_aug {f : Int -> Int -> Int} {m : Option Int} {x y : Int} (hx : σ[i]? = some (some (.int x))) (h : EvB K te σ H m) (hm : m = some y) (k : forall H2, Gx H H2 -> u X (σ.set i (some (.int (f x y)))) H2) : tSeq (tAug i te (ipI f)) u X σ H :=
  ⟨.int x, hx, h y hm H Gx.rfl _ fun v H2 e r => ⟨x, y, rfl, r, k H2 e⟩⟩

/-! loops -/
def bra {S R : Type} (k : S -> Option (S ⊕ R)) : S ⊕ R -> Option (S ⊕ R)
  | .inl s => k s
  | .inr r => some (.inr r)
def loopM {S I R : Type} (f : S -> I -> Option (S ⊕ R)) : S -> List I -> Option (S ⊕ R)
  | s, [] => some (.inl s)
  | s, x :: xs => (f s x).bind (bra fun s' => loopM f s' xs)
theorem st_for {I : Type} [Rp I] {wi : TI} {g : TG} {mx : Option (List I)} {xs : List I} (hi : EvI K wi σ M H mx) (hx : mx = some xs)
    (k : forall J H2, Gx H H2 -> Wk K J xs (mns H2 M) -> exists W : Nat -> Nat -> L2.St -> Hp -> Prop, (exists m, W 0 m σ H2) ∧ forall i m σ H, W i m σ H ->
      (J.stop i H ∧ u X σ H) ∨ (J.go i H ∧ exists N : L2.St -> Hp -> Prop, (forall σ' H', N σ' H' -> exists m', m' < m ∧ W (i + 1) m' σ' H') ∧ forall x H', J.yld i H x H' -> g x σ H' fun σ2 H2 => t1 { X with nx := N, ct := N, bk := u X } σ2 H2)) : tSeq (tFor wi g t1) u X σ H :=
  hi xs hx H Gx.rfl _ fun J H2 e wk => k J H2 e wk
theorem loop_run {S I R : Type} [Rp I] {J : It} {g : TG} {b : Bd I} {xs : List I} {Sh : Hp} {f : S -> I -> Option (S ⊕ R)} {s0 : S} {res : S ⊕ R} {E0 : Ends} {H2 : Hp} {E1 : L2.St -> Hp -> Prop} (wk : Wk K J xs Sh) (hl : loopM f s0 xs = some res) (hg : TgOk K g b)
    (In : S -> L2.St -> Hp -> Prop) (hS : forall s σ' H', In s σ' H' -> Gx Sh H') (h0 : In s0 σ H2)
    (hs : forall s x o σ' H' H'' σ2, x ∈ xs -> f s x = some o -> (forall r, o = .inr r -> res = .inr r) -> In s σ' H' -> Gx H' H'' -> b x σ' H'' σ2 ->
      t1 { E0 with nx := fun σ H => exists s', o = .inl s' ∧ In s' σ H, ct := fun σ H => exists s', o = .inl s' ∧ In s' σ H, bk := E1 } σ2 H'')
    (hd : forall s1 σ' H', res = .inl s1 -> In s1 σ' H' -> E1 σ' H') :
    exists W : Nat -> Nat -> L2.St -> Hp -> Prop, (exists m, W 0 m σ H2) ∧ forall i m σ H, W i m σ H ->
      (J.stop i H ∧ E1 σ H) ∨ (J.go i H ∧ exists N : L2.St -> Hp -> Prop, (forall σ' H', N σ' H' -> exists m', m' < m ∧ W (i + 1) m' σ' H') ∧ forall x H', J.yld i H x H' -> g x σ H' fun σ2 H2 => t1 { E0 with nx := N, ct := N, bk := E1 } σ2 H2) := by
  refine ⟨fun i m σ H => m = xs.length - i ∧ i ≤ xs.length ∧ exists s, In s σ H ∧ loopM f s (xs.drop i) = some res, ⟨xs.length, by simp, Nat.zero_le _, s0, h0, hl⟩, ?_⟩
  rintro i m σ' Hc ⟨rfl, hle, s, hin, hm⟩
  have gS := hS _ _ _ hin
  obtain ⟨go, stop, yld⟩ := wk
  by_cases hlt : i < xs.length
  · rw [List.drop_eq_getElem_cons hlt] at hm
    cases hf : f s xs[i] with
    | none => unfold loopM at hm; rw [hf] at hm; cases hm
    | some o =>
      have hm' : bra (fun s' => loopM f s' (xs.drop (i + 1))) o = some res := by
        unfold loopM at hm; rw [hf] at hm; exact hm
      refine .inr ⟨go i Hc hlt gS, fun σ H => exists s', o = .inl s' ∧ In s' σ H, fun σ3 H3 hN => ?_, fun v Hy hy => ?_⟩
      · obtain ⟨s', rfl, h3⟩ := hN
        exact ⟨xs.length - (i + 1), by omega, rfl, hlt, s', h3, hm'⟩
      · obtain ⟨gy, ry⟩ := yld i Hc v Hy _ gS (List.getElem?_eq_getElem hlt) hy
        refine hg _ v σ' Hy _ ry fun σ2 hσ => hs s xs[i] o σ' Hc Hy σ2 (List.getElem_mem hlt) hf (fun r er => ?_) hin gy hσ
        subst er
        exact (Option.some.inj hm').symm
  · have hi : i = xs.length := by omega
    subst hi
    rw [List.drop_length] at hm
    have e : res = .inl s := (Option.some.inj hm).symm
    exact .inl ⟨stop Hc gS, hd s σ' Hc e hin⟩
def whileM {S R : Type} (c : S -> Option Bool) (f : S -> Option (S ⊕ R)) : Nat -> S -> Option (S ⊕ R)
  | 0, _ => none
  | n + 1, s => (c s).bind fun b => if b = true then (f s).bind (bra fun s' => whileM c f n s') else some (.inl s)
theorem st_while {S R : Type} {c : S -> Option Bool} {f : S -> Option (S ⊕ R)} {n : Nat} {s0 : S} {res : S ⊕ R} (hl : whileM c f n s0 = some res) (In : S -> L2.St -> Hp -> Prop) (h0 : In s0 σ H)
    (hc : forall s σ' H', In s σ' H' -> EvT tt σ' H' (c s))
    (hs : forall s o σ' H' H'', c s = some true -> f s = some o -> (forall r, o = .inr r -> res = .inr r) -> In s σ' H' -> Gx H' H'' ->
      t1 { X with nx := fun σ H => exists s', o = .inl s' ∧ In s' σ H, ct := fun σ H => exists s', o = .inl s' ∧ In s' σ H, bk := u X } σ' H'')
    (hd : forall s1 σ' H' H'', res = .inl s1 -> In s1 σ' H' -> Gx H' H'' -> u X σ' H'') : tSeq (tWhile tt t1) u X σ H := by
  refine ⟨fun m σ H => exists s, In s σ H ∧ whileM c f m s = some res, ⟨n, s0, h0, hl⟩, ?_⟩
  rintro m σ' Hc ⟨s, hin, hm⟩
  cases m with
  | zero => cases hm
  | succ m =>
    unfold whileM at hm
    cases hb : c s with
    | none => rw [hb] at hm; cases hm
    | some b =>
      rw [hb] at hm
      refine hc s σ' Hc hin b hb Hc Gx.rfl _ fun H3 g3 => ?_
      cases b with
      | false =>
        have e : res = .inl s := (Option.some.inj (show some (Sum.inl s) = some res from hm)).symm
        exact ite_ff (hd s σ' Hc H3 e hin g3)
      | true =>
        refine ite_tt ?_
        cases hf : f s with
        | none => rw [hf] at hm; cases hm
        | some o =>
          have hm' : bra (fun s' => whileM c f m s') o = some res := by rw [hf] at hm; exact hm
          refine ⟨fun σ H => exists s', o = .inl s' ∧ In s' σ H, fun σ3 H4 hN => ?_, hs s o σ' Hc H3 hb hf (fun r er => ?_) hin g3⟩
          · obtain ⟨s', rfl, h3⟩ := hN
            exact ⟨m, by omega, s', h3, hm'⟩
          · subst er
            exact (Option.some.inj hm').symm

/-! defs -/
/-- what comes leans on tuples alone; a new list comes -/
def PSb {R : Type} [Rp R] (K : Fg) (m : List V -> Hp -> Option R -> Prop) : Sp := fun vs H Q _ => exists r, m vs H (some r) ∧ forall w H2, Gx H H2 -> rp K H2 w r -> Q w H2
def PSn {R : Type} [Rp R] (K : Fg) (m : List V -> Hp -> Option (List R) -> Prop) : Sp := fun vs H Q _ => exists r, m vs H (some r) ∧ forall p ws H2, H p = none -> Gx H H2 -> H2 p = some (.lst ws) -> Al (rp K H2) ws r -> Q (.ref p) H2
def A1 {A R : Type} [Rp A] (K : Fg) (f : A -> Option R) : List V -> Hp -> Option R -> Prop := fun vs H o => exists v x, vs = [v] ∧ rp K H v x ∧ f x = o
def A2 {A B R : Type} [Rp A] [Rp B] (K : Fg) (f : A -> B -> Option R) : List V -> Hp -> Option R -> Prop := fun vs H o => exists v w x y, vs = [v, w] ∧ rp K H v x ∧ rp K H w y ∧ f x y = o
def A3 {A B C R : Type} [Rp A] [Rp B] [Rp C] (K : Fg) (f : A -> B -> C -> Option R) : List V -> Hp -> Option R -> Prop := fun vs H o => exists v1 v2 v3 x y z, vs = [v1, v2, v3] ∧ rp K H v1 x ∧ rp K H v2 y ∧ rp K H v3 z ∧ f x y z = o
def A4 {A B C D R : Type} [Rp A] [Rp B] [Rp C] [Rp D] (K : Fg) (f : A -> B -> C -> D -> Option R) : List V -> Hp -> Option R -> Prop := fun vs H o => exists v1 v2 v3 v4 x y z w, vs = [v1, v2, v3, v4] ∧ rp K H v1 x ∧ rp K H v2 y ∧ rp K H v3 z ∧ rp K H v4 w ∧ f x y z w = o
def A5 {A B C D E R : Type} [Rp A] [Rp B] [Rp C] [Rp D] [Rp E] (K : Fg) (f : A -> B -> C -> D -> E -> Option R) : List V -> Hp -> Option R -> Prop := fun vs H o => exists v1 v2 v3 v4 v5 x y z w e, vs = [v1, v2, v3, v4, v5] ∧ rp K H v1 x ∧ rp K H v2 y ∧ rp K H v3 z ∧ rp K H v4 w ∧ rp K H v5 e ∧ f x y z w e = o
def o4 {A B C D R : Type} (f : A -> B -> C -> D -> Option R) (ma : Option A) (mb : Option B) (mc : Option C) (md : Option D) : Option R := ma.bind fun a => mb.bind fun b => mc.bind fun c => md.bind fun d => f a b c d
theorem o4s {A B C D R : Type} {f : A -> B -> C -> D -> Option R} {ma : Option A} {mb : Option B} {mc : Option C} {md : Option D} {r : R} (h : o4 f ma mb mc md = some r) : exists a b c d, ma = some a ∧ mb = some b ∧ mc = some c ∧ md = some d ∧ f a b c d = some r := by
  cases ma with
  | none => cases h
  | some a => cases mb with
    | none => cases h
    | some b => cases mc with
      | none => cases h
      | some c => cases md with
        | none => cases h
        | some d => exact ⟨a, b, c, d, rfl, rfl, rfl, rfl, h⟩
/-- the arguments: what they come to, read -/
def EvM {R : Type} (t : TA) (σ : L2.St) (H : Hp) (m : List V -> Hp -> Option R -> Prop) (o : Option R) : Prop := forall r, o = some r -> forall H1, Gx H H1 -> forall Q : List V -> Hp -> Prop, (forall vs H2, Gx H1 H2 -> m vs H2 (some r) -> Q vs H2) -> t σ H1 Q
variable {td tf : TE} {R : Type} {E' : Type} [Rp E']
theorem em1 {f : A -> Option R} {ma : Option A} (ha : EvB K ta σ H ma) : EvM (tCons ta tNil) σ H (A1 K f) (o1 f ma) := fun r hr H1 e Q q => by
  obtain ⟨x, e1, e3⟩ := o1s hr
  exact ha x e1 H1 e _ fun v H2 g2 r2 => q _ H2 g2 ⟨v, x, rfl, r2, e3⟩
theorem em2 {f : A -> B -> Option R} {ma : Option A} {mb : Option B} (ha : EvB K ta σ H ma) (hb : EvB K tb σ H mb) : EvM (tCons ta (tCons tb tNil)) σ H (A2 K f) (o2 f ma mb) := fun r hr H1 e Q q => by
  obtain ⟨x, y, e1, e2, e3⟩ := o2s hr
  exact ha x e1 H1 e _ fun v H2 g2 r2 => hb y e2 H2 (e.trans g2) _ fun w H3 g3 r3 => q _ H3 (g2.trans g3) ⟨v, w, x, y, rfl, Rp.mono g3 r2, r3, e3⟩
theorem em3 {f : A -> B -> C -> Option R} {ma : Option A} {mb : Option B} {mc : Option C} (ha : EvB K ta σ H ma) (hb : EvB K tb σ H mb) (hc : EvB K tc σ H mc) : EvM (tCons ta (tCons tb (tCons tc tNil))) σ H (A3 K f) (o3 f ma mb mc) := fun r hr H1 e Q q => by
  obtain ⟨x, y, z, e1, e2, e2', e3⟩ := o3s hr
  exact ha x e1 H1 e _ fun v H2 g2 r2 => hb y e2 H2 (e.trans g2) _ fun w H3 g3 r3 => hc z e2' H3 ((e.trans g2).trans g3) _ fun w3 H4 g4 r4 => q _ H4 ((g2.trans g3).trans g4) ⟨v, w, w3, x, y, z, rfl, Rp.mono (g3.trans g4) r2, Rp.mono g4 r3, r4, e3⟩
theorem em4 {f : A -> B -> C -> D -> Option R} {ma : Option A} {mb : Option B} {mc : Option C} {md : Option D} (ha : EvB K ta σ H ma) (hb : EvB K tb σ H mb) (hc : EvB K tc σ H mc) (hd : EvB K td σ H md) : EvM (tCons ta (tCons tb (tCons tc (tCons td tNil)))) σ H (A4 K f) (o4 f ma mb mc md) := fun r hr H1 e Q q => by
  obtain ⟨x, y, z, w0, e1, e2, e2', e2'', e3⟩ := o4s hr
  exact ha x e1 H1 e _ fun v H2 g2 r2 => hb y e2 H2 (e.trans g2) _ fun w H3 g3 r3 => hc z e2' H3 ((e.trans g2).trans g3) _ fun w3 H4 g4 r4 => hd w0 e2'' H4 (((e.trans g2).trans g3).trans g4) _ fun w4 H5 g5 r5 => q _ H5 (((g2.trans g3).trans g4).trans g5) ⟨v, w, w3, w4, x, y, z, w0, rfl, Rp.mono ((g3.trans g4).trans g5) r2, Rp.mono (g4.trans g5) r3, Rp.mono g5 r4, r5, e3⟩
theorem eb_call [Rp R] {m : List V -> Hp -> Option R -> Prop} {o : Option R} {t : TA} {E : XK} (h : EvM t σ H m o) : EvB K (tCall (PSb K m) [] E t) σ H o := fun r hr H1 e Q q =>
  h r hr H1 e _ fun vs H2 g2 hm => ⟨r, by rw [List.append_nil]; exact hm, fun w H3 g3 r3 => q w H3 (g2.trans g3) r3⟩
theorem en_call [Rp R] {m : List V -> Hp -> Option (List R) -> Prop} {o : Option (List R)} {t : TA} {E : XK} (h : EvM t σ H m o) : EvN K (tCall (PSn K m) [] E t) σ H o := fun r hr H1 e Q q =>
  h r hr H1 e _ fun vs H2 g2 hm => ⟨r, by rw [List.append_nil]; exact hm, fun p ws H3 hp g3 h3 r3 => q p ws H3 (g2.back hp) (g2.trans g3) h3 r3⟩

/-! the ends of a def -/
theorem sr_b {m : Option A} {x : A} (h : EvB K te σ H m) (hm : m = some x) (k : forall v H2, Gx H H2 -> rp K H2 v x -> X.rt v H2) : tSeq (tRet te) u X σ H := h x hm H Gx.rfl _ k
theorem sr_n {m : Option (List A)} {x : List A} (h : EvN K te σ H m) (hm : m = some x) (k : forall p vs H2, H p = none -> Gx H H2 -> H2 p = some (.lst vs) -> Al (rp K H2) vs x -> X.rt (.ref p) H2) : tSeq (tRet te) u X σ H := h x hm H Gx.rfl _ k
theorem sr_m {p : Addr} (h : σ[i]? = some (some (.ref p))) (k : X.rt (.ref p) H) : tSeq (tRet (tVar i)) u X σ H := ⟨_, h, k⟩
/-- a new list, to be changed -/
theorem st_newM [Im A] {m : Option (List A)} {x : List A} (h : EvN K te σ H m) (hm : m = some x) (a : At G H L) (k : forall p vs G2 H2, H p = none -> Gx G G2 -> Gx H H2 -> At G2 H2 ((p, .lst vs) :: L) -> Al (rp K G2) vs x -> u X (σ.set i (some (.ref p))) H2) : tSeq (tAsg te (gName i)) u X σ H :=
  h x hm H Gx.rfl _ fun p vs H2 hp g h2 r => by
    have a2 : At G H2 ((p, .lst vs) :: L) := by
      refine ⟨a.ex.trans g, List.nodup_cons.mpr ⟨a.fresh hp, a.nd⟩, fun q hq => ?_⟩
      rcases List.mem_cons.mp hq with rfl | hq
      · exact ⟨h2, a.ex.back hp, trivial⟩
      · exact (a.grow g).led q hq
    exact k p vs (hid H2 ((p, .lst vs) :: L)) H2 hp a2.gh g a2.hid (r.mono fun _ _ => Im.im a2.tx)
/-- a fold -/
def foldO {S I : Type} (f : S -> I -> Option S) : S -> List I -> Option S
  | s, [] => some s
  | s, x :: xs => (f s x).bind fun s' => foldO f s' xs
theorem foldO_loop {S I : Type} {f : S -> I -> Option S} : forall {xs : List I} {s r : S}, foldO f s xs = some r -> loopM (R := Empty) (fun s x => (f s x).map Sum.inl) s xs = some (.inl r)
  | [], s, r, h => by cases h; rfl
  | x :: xs, s, r, h => by
    unfold foldO at h
    unfold loopM
    cases hf : f s x with
    | none => rw [hf] at h; cases h
    | some s' =>
      rw [hf] at h
      exact foldO_loop (xs := xs) h
theorem fold_run {S I : Type} [Rp I] {J : It} {g : TG} {b : Bd I} {xs : List I} {Sh : Hp} {f : S -> I -> Option S} {s0 s1 : S} {E0 : Ends} {H2 : Hp} {E1 : L2.St -> Hp -> Prop} (wk : Wk K J xs Sh) (hl : foldO f s0 xs = some s1) (hg : TgOk K g b)
    (In : S -> L2.St -> Hp -> Prop) (hS : forall s σ' H', In s σ' H' -> Gx Sh H') (h0 : In s0 σ H2)
    (hs : forall s x s' σ' H' H'' σ2, x ∈ xs -> f s x = some s' -> In s σ' H' -> Gx H' H'' -> b x σ' H'' σ2 -> t1 { E0 with nx := In s', ct := In s', bk := E1 } σ2 H'')
    (hd : forall σ' H', In s1 σ' H' -> E1 σ' H') :
    exists W : Nat -> Nat -> L2.St -> Hp -> Prop, (exists m, W 0 m σ H2) ∧ forall i m σ H, W i m σ H ->
      (J.stop i H ∧ E1 σ H) ∨ (J.go i H ∧ exists N : L2.St -> Hp -> Prop, (forall σ' H', N σ' H' -> exists m', m' < m ∧ W (i + 1) m' σ' H') ∧ forall x H', J.yld i H x H' -> g x σ H' fun σ2 H2 => t1 { E0 with nx := N, ct := N, bk := E1 } σ2 H2) := by
  refine ⟨fun i m σ H => m = xs.length - i ∧ i ≤ xs.length ∧ exists s, In s σ H ∧ foldO f s (xs.drop i) = some s1, ⟨xs.length, by simp, Nat.zero_le _, s0, h0, hl⟩, ?_⟩
  rintro i m σ' Hc ⟨rfl, hle, s, hin, hm⟩
  have gS := hS _ _ _ hin
  obtain ⟨go, stop, yld⟩ := wk
  by_cases hlt : i < xs.length
  · rw [List.drop_eq_getElem_cons hlt] at hm
    cases hf : f s xs[i] with
    | none => unfold foldO at hm; rw [hf] at hm; cases hm
    | some s' =>
      have hm' : foldO f s' (xs.drop (i + 1)) = some s1 := by
        unfold foldO at hm; rw [hf] at hm; exact hm
      refine .inr ⟨go i Hc hlt gS, In s', fun σ3 H3 hN => ⟨xs.length - (i + 1), by omega, rfl, hlt, s', hN, hm'⟩, fun v Hy hy => ?_⟩
      obtain ⟨gy, ry⟩ := yld i Hc v Hy _ gS (List.getElem?_eq_getElem hlt) hy
      exact hg _ v σ' Hy _ ry fun σ2 hσ => hs s xs[i] s' σ' Hc Hy σ2 (List.getElem_mem hlt) hf hin gy hσ
  · have hi : i = xs.length := by omega
    subst hi
    rw [List.drop_length] at hm
    cases hm
    exact .inl ⟨stop Hc gS, hd σ' Hc hin⟩
/-- behind a loop that may leave -/
def fin {S R : Type} (k : S -> Option R) : S ⊕ R -> Option R
  | .inl s => k s
  | .inr r => some r
def braR {S S' R : Type} (k : S -> Option (S' ⊕ R)) : S ⊕ R -> Option (S' ⊕ R)
  | .inl s => k s
  | .inr r => some (.inr r)
theorem bnd {A B : Type} {m : Option A} {f : A -> Option B} {r : B} (h : m.bind f = some r) : exists a, m = some a ∧ f a = some r := o1s h
end
end Pu

set_option Elab.async false
set_option linter.all false
set_option maxRecDepth 100000
set_option maxHeartbeats 1000000
namespace Pu
open Pu.Rp (rp)
open PySem PySem.Spec PyProof.Rows L2
/-! zip of three lists -/
def Itz3 (K : Fg) (a b c : Addr) : It :=
  ⟨fun i H => exists (xs ys zs : List V) (x y z : V), (SqL K H a xs ∧ SqL K H b ys ∧ SqL K H c zs) ∧ xs[i]? = some x ∧ ys[i]? = some y ∧ zs[i]? = some z,
   fun i H v H' => exists T x y z, v = .ref T ∧ H T = none ∧ H' = upd H T (.tup [x, y, z]) ∧ (forall xs, SqL K H a xs -> xs[i]? = some x) ∧ (forall ys, SqL K H b ys -> ys[i]? = some y) ∧ (forall zs, SqL K H c zs -> zs[i]? = some z),
   fun i H => exists xs ys zs : List V, (SqL K H a xs ∧ SqL K H b ys ∧ SqL K H c zs) ∧ (xs.length ≤ i ∨ ys.length ≤ i ∨ zs.length ≤ i) ∧ i ≤ xs.length ∧ i ≤ ys.length ∧ i ≤ zs.length⟩
abbrev Tn3 (a b c z TI TO i1 i2 i3 : Addr) : Nat -> Heap -> Prop := fun i h => IsZip h z TI TO .none ∧ IsTupOf3 h TI (.ref i1) (.ref i2) (.ref i3) ∧ (exists x y u, IsTupOf3 h TO x y u) ∧ h.IsListIter i1 a i ∧ h.IsListIter i2 b i ∧ h.IsListIter i3 c i
theorem tn3_ob {a b c z TI TO i1 i2 i3 : Addr} {i : Nat} {h : Heap} (t : Tn3 a b c z TI TO i1 i2 i3 i h) : forall d, d ∈ [z, TI, TO, i1, i2, i3] -> exists o, h.get? d = some o ∧ forall v, o.data ≠ .cell v := fun d hd => by
  obtain ⟨hz, hTI, ⟨x, y, u, hTO⟩, ⟨o1, e1, _, d1⟩, ⟨o2, e2, _, d2⟩, ⟨o3, e3, _, d3⟩⟩ := t
  have e' : d = z ∨ d = TI ∨ d = TO ∨ d = i1 ∨ d = i2 ∨ d = i3 := by simpa using hd
  rcases e' with q | q | q | q | q | q <;> rw [q]
  · exact ⟨_, hz, fun v q => nomatch q⟩
  · exact ⟨_, hTI, fun v q => nomatch q⟩
  · exact ⟨_, hTO, fun v q => nomatch q⟩
  · exact ⟨o1, e1, fun v q => by rw [d1] at q; cases q⟩
  · exact ⟨o2, e2, fun v q => by rw [d2] at q; cases q⟩
  · exact ⟨o3, e3, fun v q => by rw [d3] at q; cases q⟩
theorem turn_zip3 {P : Program} {w : World} {K : Fg} {elts : List Expr} {kk : Nat} {tpos : Pos} {a b c z TI TO i1 i2 i3 : Addr} (S : ZipSep3 z TI TO i1 i2 i3 [i1, a] [i2, b] [i3, c]) (ha : a ≠ i1) (hb : b ≠ i2) (hc : c ≠ i3) :
    Turn P w K (.Tuple elts kk tpos) (Itz3 K a b c) [z, TI, TO, i1, i2, i3] z (Tn3 a b c z TI TO i1 i2 i3) where
  mem := by simp
  obj := fun i h st => tn3_ob st
  keep := fun i h h' st k => by
    obtain ⟨hz, hTI, ⟨x, y, u, hTO⟩, h1, h2, h3⟩ := st
    exact ⟨k z (by simp) _ hz, k TI (by simp) _ hTI, ⟨x, y, u, k TO (by simp) _ hTO⟩, h1.at fun o q => k i1 (by simp) o q, h2.at fun o q => k i2 (by simp) o q, h3.at fun o q => k i3 (by simp) o q⟩
  item := by
    intro X hP hw hK hcalm i pins s σ H E I hf st hg
    subst hP hw hK
    obtain ⟨hz, hTI, hTO, h1, h2, h3⟩ := id st
    obtain ⟨xs, ys, zs, x, y, u, ⟨hqx, hqy, hqz⟩, hx, hy, hu⟩ := hg
    obtain ⟨its, rv, p, _⟩ := I.list hqx
    obtain ⟨its2, rv2, p2, _⟩ := I.list hqy
    obtain ⟨its3, rv3, p3, _⟩ := I.list hqz
    have hh : X.A.in1.handled = none := by simpa using I.ok.hd hcalm
    have W := GoesN.zip3 (prog := X.prog) (w := X.w) (A := X.A) (elts := elts) (x1 := kk) (pos := tpos) S (Draws.list hh i1 a ha its.toArray) (Draws.list hh i2 b hb its2.toArray) (Draws.list hh i3 c hc its3.toArray)
    have l1 : i < its.toArray.size := by
      have := (List.getElem?_eq_some_iff.mp hx).1
      rw [rv.length] at this
      simpa using this
    have l2 : i < its2.toArray.size := by
      have := (List.getElem?_eq_some_iff.mp hy).1
      rw [rv2.length] at this
      simpa using this
    have l3 : i < its3.toArray.size := by
      have := (List.getElem?_eq_some_iff.mp hu).1
      rw [rv3.length] at this
      simpa using this
    have hall : forall d, d ∈ [z, TI, TO, i1, i2, i3] -> d < s.heap.objs.size := fun d hd => by
      obtain ⟨o, e, _⟩ := tn3_ob st d hd
      exact Heap.lt_size e
    refine thn (W.goes i s (fun v s2 => exists x' H', Inv X pins σ H' s2 ∧ RelV x' v ∧ (Itz3 X.K a b c).yld i H x' H' ∧ Tn3 a b c z TI TO i1 i2 i3 (i + 1) s2.heap ∧ forall d, d ∈ [z, TI, TO, i1, i2, i3] -> H' d = none) E (by omega) ⟨hz, hTI, hTO, ⟨h1, p.isList⟩, ⟨h2, p2.isList⟩, ⟨h3, p3.isList⟩⟩ fun v h' tk hY st' hk htk => ?_) fun r s1 hr => hr
    obtain ⟨T, x1, y1, u1, rfl, hT, q1, q2, q3, hTt⟩ := hY
    obtain ⟨hz', hTI', hTO', ⟨h1', _⟩, ⟨h2', _⟩, ⟨h3', _⟩⟩ := st'
    obtain ⟨v1, e1, r1⟩ := rv.get hx
    obtain ⟨v2, e2, r2⟩ := rv2.get hy
    obtain ⟨v3, e3, r3⟩ := rv3.get hu
    have f1 : v1 = x1 := by
      have : its.toArray[i]? = some v1 := by simpa using e1
      rw [q1] at this; exact (Option.some.inj this).symm
    have f2 : v2 = y1 := by
      have : its2.toArray[i]? = some v2 := by simpa using e2
      rw [q2] at this; exact (Option.some.inj this).symm
    have f3 : v3 = u1 := by
      have : its3.toArray[i]? = some v3 := by simpa using e3
      rw [q3] at this; exact (Option.some.inj this).symm
    subst f1 f2 f3
    have new : ObjOk X.prog X.w (upd H T (.tup [x, y, u])) h' T (.tup [x, y, u]) := ⟨by show 3 ≤ sizeLine; decide, [v1, v2, v3], .cons r1 (.cons r2 (.cons r3 .nil)), hTt⟩
    have I1 : Inv X pins σ (upd H T (.tup [x, y, u])) { s with heap := h', toks := tk } :=
      I.turnedNew (t' := tk) (ch := [z, TI, TO, i1, i2, i3]) (fun d o hd q => hk d o (fun z' => hd (by
        simp only [List.mem_cons, List.not_mem_nil, or_false] at z' ⊢
        rcases z' with e | e | e | e | e <;> simp [e])) q) hf hT new
    refine ⟨.ref T, _, I1, rfl, ⟨T, x, y, u, rfl, I.hok.fresh hT, rfl, fun l hl => by rw [I.list_inj hl hqx]; exact hx, fun l hl => by rw [I.list_inj hl hqy]; exact hy, fun l hl => by rw [I.list_inj hl hqz]; exact hu⟩, ⟨hz', hTI', hTO', h1', h2', h3'⟩, fun d hd => ?_⟩
    rw [upd_ne (Nat.ne_of_lt (Nat.lt_of_lt_of_le (hall d hd) hT))]
    exact (hf d hd).1
  done := by
    intro X hP hw hK hcalm i pins s σ H E I hf st hg
    subst hP hw hK
    obtain ⟨hz, hTI, hTO, h1, h2, h3⟩ := id st
    obtain ⟨xs, ys, zs, ⟨hqx, hqy, hqz⟩, hend, b1, b2, b3⟩ := hg
    obtain ⟨its, rv, p, _⟩ := I.list hqx
    obtain ⟨its2, rv2, p2, _⟩ := I.list hqy
    obtain ⟨its3, rv3, p3, _⟩ := I.list hqz
    have hh : X.A.in1.handled = none := by simpa using I.ok.hd hcalm
    have W := GoesN.zip3 (prog := X.prog) (w := X.w) (A := X.A) (elts := elts) (x1 := kk) (pos := tpos) S (Draws.list hh i1 a ha its.toArray) (Draws.list hh i2 b hb its2.toArray) (Draws.list hh i3 c hc its3.toArray)
    have hi : i = min (min its.toArray.size its2.toArray.size) its3.toArray.size := by
      rw [List.size_toArray, List.size_toArray, List.size_toArray, ← rv.length, ← rv2.length, ← rv3.length]
      omega
    refine W.stops s _ E (hi ▸ ⟨hz, hTI, hTO, ⟨h1, p.isList⟩, ⟨h2, p2.isList⟩, ⟨h3, p3.isList⟩⟩) fun h' tk hk htk => ?_
    exact I.turnedL (t' := tk) (ch := [z, TI, TO, i1, i2, i3]) (fun d o hd q => hk d o (fun z' => hd (by
        simp only [List.mem_cons, List.not_mem_nil, or_false] at z' ⊢
        rcases z' with e | e | e | e | e <;> simp [e])) q) hf
  self := fun A i s Q E st h => wpAny_pyIter_zip st.1 h
def iZip3 (K : Fg) (ta : TA) : TI := fun σ H R => ta σ H fun vs H1 => exists a b c xs ys zs, vs = [.ref a, .ref b, .ref c] ∧ (SqL K H1 a xs ∧ SqL K H1 b ys ∧ SqL K H1 c zs) ∧ R (Itz3 K a b c) H1
theorem pi_zip3 {X : Cx} {e e2 e3 : Expr} {ta : TA} {p pos tpos : Pos} {elts : List Expr} {kk : Nat} (hg : Gl X "zip") (hm : X.mg "zip" = none) (ha : PA X [e, e2, e3] ta)
    (hs : starEach [e, e2, e3] X.env = (false, eval e X.env) :: starEach [e2, e3] X.env := by rfl) (hpl : (backTo pos (starEach [e2, e3] X.env)).any (·.1) = false := by rfl) :
    PI X (.Tuple elts kk tpos) (.Call (.Name "zip" p) [e, e2, e3] [] pos) (iZip3 X.K ta) := by
  refine ⟨fun pins s σ H R I h => ?_⟩
  refine Call_ (ld_blt I hg hm PyProof.Rows.boot_zip (PyProof.Rows.callWith_type1 (thn (ha.run pos pins s σ H _ I h) fun us s1 q => ?_) hs hpl))
  obtain ⟨vs, H1, I1, r1, a, b, c, xs, ys, zs, ex, ⟨hqx, hqy, hqz⟩, q⟩ := q
  subst ex
  obtain ⟨u1, us1, rfl, ru1, r1⟩ : exists u1 us1, us = u1 :: us1 ∧ RelV (.ref a) u1 ∧ Vals [.ref b, .ref c] us1 := by cases r1 with | cons r rr => exact ⟨_, _, rfl, r, rr⟩
  obtain ⟨u2, us2, rfl, ru2, r1⟩ : exists u1 us2, us1 = u1 :: us2 ∧ RelV (.ref b) u1 ∧ Vals [.ref c] us2 := by cases r1 with | cons r rr => exact ⟨_, _, rfl, r, rr⟩
  obtain ⟨u3, us3, rfl, ru3, r1⟩ : exists u1 us3, us2 = u1 :: us3 ∧ RelV (.ref c) u1 ∧ Vals [] us3 := by cases r1 with | cons r rr => exact ⟨_, _, rfl, r, rr⟩
  cases r1
  cases ru1; cases ru2; cases ru3
  obtain ⟨its, rv, p1, _⟩ := I1.list hqx
  obtain ⟨its2, rv2, p2, _⟩ := I1.list hqy
  obtain ⟨its3, rv3, p3, _⟩ := I1.list hqz
  have la : a < s1.heap.objs.size := p1.lt
  have lb : b < s1.heap.objs.size := p2.lt
  have lc : c < s1.heap.objs.size := p3.lt
  refine zip_begins3 (begins_list a its.toArray) (begins_list b its2.toArray) (begins_list c its3.toArray) p1.isList p2.isList p3.isList fun h' hz hTI hTO g1 g2 g3 hsz hk => wpAny_pyIter_zip hz ?_
  have I2 : Inv X pins σ H1 { s1 with heap := h' } := I1.kept (t' := s1.toks) hk
  have sep := zip_sep3 (N := s1.heap.objs.size) (fp1 := [a]) (fp2 := [b]) (fp3 := [c]) (by simpa using la) (by simpa using lb) (by simpa using lc)
  have n : forall k, s1.heap.objs.size ≤ s1.heap.objs.size + k := fun k => Nat.le_add_right _ k
  refine ⟨s1.heap.objs.size + 5, [s1.heap.objs.size + 5, s1.heap.objs.size + 3, s1.heap.objs.size + 4, s1.heap.objs.size, s1.heap.objs.size + 1, s1.heap.objs.size + 2], _, _, H1, rfl, I2,
    turn_zip3 (a := a) (b := b) (c := c) sep (Nat.ne_of_lt la) (Nat.ne_of_lt (Nat.lt_succ_of_lt lb)) (Nat.ne_of_lt (Nat.lt_of_lt_of_le lc (n 2))), ⟨hz, hTI, ⟨_, _, _, hTO⟩, ⟨_, g1, rfl, rfl⟩, ⟨_, g2, rfl, rfl⟩, ⟨_, g3, rfl, rfl⟩⟩, fun d hd => ?_, q⟩
  have hle : s1.heap.objs.size ≤ d := by
    simp only [List.mem_cons, List.not_mem_nil, or_false] at hd
    rcases hd with e | e | e | e | e | e <;> rw [e] <;> first | exact Nat.le_refl _ | exact n _
  exact I1.fpOk hle (I1.hok.fresh hle)
/-! set of a list of ints -/
def rSetL1 (w : World) : List V -> Hp -> VK -> Prop := fun xs H Q => exists (l : Addr) (ns : List Int), xs = [.ref l] ∧ H l = some (.lst (ns.map V.int)) ∧ ns.length ≤ 1000 ∧ forall (a : Addr) (c : Nat), H a = none -> c ≤ ns.length -> Q (.ref a) (upd H a (SetO w a (fun j => decide (j ∈ ns)) c))
end Pu

set_option Elab.async false
set_option linter.all false
set_option maxRecDepth 100000
set_option maxHeartbeats 4000000
namespace Pu
open Pu.Rp (rp)
open PySem PySem.Spec PyProof.Rows L2
/-- the empty set's object -/
abbrev noS (w : World) : Obj := { cls := .type "set", dict := none, data := .set #[] 0 (.fresh 0 0 (!w.params.followText "set-order")) }
abbrev hpS (w : World) (s : Shared) : Heap := s.heap.push (noS w)
/-- what set(..) comes to -/
def SetEnd (w : World) (s : Shared) (ns : List Int) (r : Value) (s2 : Shared) : Prop := r = .none ∧ exists h' tk c, s2 = { s with heap := h', toks := tk } ∧ SetR w h' s.heap.objs.size (fun j => decide (j ∈ ns)) c ∧ c ≤ ns.length ∧ forall b o, s.heap.get? b = some o -> h'.get? b = some o
theorem setL_val {items : Array Value} {ns : List Int} (hit : IntsAre items.toList ns) (hz : items.size = ns.length) : forall (i : Nat) (v : Value), items[i]? = some v -> exists k t, ns[i]? = some k ∧ v = .int k t := fun i v hv => by
  have hi : i < ns.length := hz ▸ (Array.getElem?_eq_some_iff.mp hv).1
  obtain ⟨t, e⟩ := PyProof.Rows.IntsAre.int_at hit i v (by simpa using hv)
  refine ⟨ns[i], t, List.getElem?_eq_getElem hi, e.trans ?_⟩
  rw [List.getD_eq_getElem?_getD, List.getElem?_eq_getElem hi]
  rfl
section
variable {P : Program} {w : World} {A : Around} {E : Value → Shared → Prop} {s : Shared}
theorem setL_init {l : Addr} {items : Array Value} (ns : List Int) {A3 : Around} (hh : A3.in1.handled = none) (hl : s.heap.IsList l items) (hit : IntsAre items.toList ns) (hz : items.size = ns.length) (hb : ns.length + 1 < scanBound) :
    codeAny (model P w) A3 (.builtin "set.update.loop" ⟨[.ref s.heap.objs.size, .ref (hpS w s).objs.size], []⟩) (wants (SetEnd w s ns) E) { s with heap := (hpS w s).push { cls := .type "list_iterator", data := .fields #[.ref l, .int 0 0] } } := by
  have hlt : l < s.heap.objs.size := by
    obtain ⟨o, ho, _⟩ := id hl
    exact Heap.lt_size ho
  have z1 : (hpS w s).objs.size = s.heap.objs.size + 1 := Heap.size_push ..
  have hl1 : (hpS w s).IsList l items := hl.push _
  have ne1 : l ≠ (hpS w s).objs.size := by rw [z1]; exact Nat.ne_of_lt (Nat.lt_succ_of_lt hlt)
  have nf : s.heap.objs.size ∉ [(hpS w s).objs.size, l] := by
    rw [z1]
    intro z
    simp only [List.mem_cons, List.not_mem_nil, or_false] at z
    rcases z with z | z
    · exact absurd z (Nat.ne_of_lt (Nat.lt_succ_self _))
    · exact absurd z (Nat.ne_of_gt hlt)
  have g0 : (hpS w s).get? s.heap.objs.size = some (noS w) := Heap.get?_push_size _ rfl
  refine set_update_ints ((Walks.list hh _ l ne1 items).toS) s.heap.objs.size nf ns hz hb (setL_val hit hz) (items.size - 0) 0 _ (by omega) (Nat.zero_le _) ⟨⟨_, Heap.get?_push_size _ rfl, rfl, rfl⟩, hl1.push _⟩
    ⟨0, Nat.le_refl 0, setR_new_at (Heap.get?_push_of_some _ g0)⟩ fun s' c hm hc hS => ?_
  obtain ⟨h', g2, d', tk', os'⟩ := s'
  obtain rfl : g2 = s.gens := hm.gens
  obtain rfl : d' = s.drawn := hm.drawn
  obtain rfl : os' = s.os := hm.os
  show SetEnd w s ns _ _
  refine ⟨rfl, h', tk', c, rfl, hS, by omega, fun b o e => hm.heap b o (fun z => ?_) (Heap.get?_push_of_some _ (Heap.get?_push_of_some _ e))⟩
  have hbl : b < s.heap.objs.size := Heap.lt_size e
  simp only [List.mem_cons, List.not_mem_nil, or_false] at z
  rcases z with z | z
  · exact absurd hbl (by rw [z]; exact Nat.lt_irrefl _)
  · rw [z1] at z
    exact absurd hbl (by rw [z]; exact Nat.not_lt_of_le (Nat.le_succ _))
set_option maxHeartbeats 8000000 in
theorem call_setL {l : Addr} {items : Array Value} (ns : List Int) {Q : Value → Shared → Prop} (hh : A.handled = none) (hl : s.heap.IsList l items) (hit : IntsAre items.toList ns) (hb : ns.length + 1 < scanBound)
    (h : forall (h' : Heap) (tk c : Nat), SetR w h' s.heap.objs.size (fun j => decide (j ∈ ns)) c -> c ≤ ns.length -> (forall b o, s.heap.get? b = some o -> h'.get? b = some o) -> Q (.ref s.heap.objs.size) { s with heap := h', toks := tk }) :
    wpAny (model P w) A (call (.type "set") [.ref l]) Q E s := by
  have hz : items.size = ns.length := by simpa using IntsAre.length hit
  obtain ⟨c0, tl, hmro⟩ := F.called_set.mro
  have k1 := F.called_set.made
  have k2 := F.called_set.sub
  have k3 := F.called_set.notType
  have k4 := F.called_set.canCreate
  have k5 := F.typeCall_set_1 (.ref l)
  refine wpAny_call (codeAny_of_tree (show wpAny _ _ (callAny (.type "set") _) _ _ _ from wpAny_pure ⟨Code.quiet_builtin _ (by decide +kernel), codeAny_builtin F.entry_type_call ?_⟩))
  rw [Around.under_plain (weight_type_call_type "set" [.ref l] []) rfl]
  repeat (any_goals (first | assumption | wp_step))
  refine codeAny_mono (code_set_led1 (.ref l) (E := E) (Q₁ := fun obj s1 => obj = .ref s.heap.objs.size ∧ s1 = { s with heap := hpS w s }) ⟨rfl, rfl⟩) fun r s1 hr => ?_
  match r, hr with
  | .ok (.ret obj), ⟨e1, e2⟩ =>
    subst e1 e2
    have hT : Shared.TypeIs { s with heap := hpS w s } (.ref s.heap.objs.size) "set" := ⟨noS w, Heap.get?_push_size _ rfl, rfl⟩
    have k6 := F.called_set.init.lookup
    have k7 := F.called_set.init.bind (.ref s.heap.objs.size)
    repeat (any_goals (first | assumption | wp_step))
    refine codeAny_mono (codeAny_call_builtin (R := wants (SetEnd w s ns) E) F.called_set.init.plain F.entry_set_init (check_set_init_1 hT ?_)) fun r2 s2 hr2 => ?_
    · have hl1 : (hpS w s).IsList l items := hl.push _
      obtain ⟨ol, hol, hcl, nl, hdl⟩ := id hl1
      obtain ⟨ocls, odict, odata, oslots⟩ := ol
      simp only at hcl hdl
      subst hcl; subst hdl
      have j1 := F.sub_list_set
      have j2 := F.sub_list_frozenset
      have j3 : (Value.type "list" == Value.type "dict") = false := by decide
      unfold Builtin.«set.__init__» noKeywords Builtin.Frozenset.updateFrom
      generalize hPI : pyIter = PI
      wp_walk
      subst hPI
      refine wpAny_pyIter_list hl1 (wpAny_bind (wpAny_runValue ?_))
      refine codeAny_mono (setL_init (P := P) (w := w) (E := E) (s := s) ns (by simp [hh]) hl hit hz hb) fun r3 s3 hr3 => ?_
      match r3, hr3 with
      | .ok (.ret v), hr3 =>
        obtain ⟨rfl, h3⟩ := hr3
        exact wpAny_pure (wpAny_pure ⟨rfl, h3⟩)
      | .error e, hr3 => exact hr3
      | .ok .next, hr3 => exact hr3.elim
      | .ok .brk, hr3 => exact hr3.elim
      | .ok .cont, hr3 => exact hr3.elim
    · match r2, hr2 with
      | .ok (.ret v), hr2 =>
        obtain ⟨rfl, h', tk, c, rfl, hS, hc, hk⟩ := hr2
        repeat (any_goals (first | assumption | wp_step))
        exact h _ _ _ hS hc hk
      | .error e, hr2 => exact hr2
      | .ok .next, hr2 => exact hr2.elim
      | .ok .brk, hr2 => exact hr2.elim
      | .ok .cont, hr2 => exact hr2.elim
  | .error e, hr => exact hr
  | .ok .next, hr => exact hr.elim
  | .ok .brk, hr => exact hr.elim
  | .ok .cont, hr => exact hr.elim
end
section
variable {X : Cx}
theorem cr_setL (hc : X.calm = true) : CallR X (.type "set") (rSetL1 X.w) := by
  intro pins s σ H vs us Q I r h
  obtain ⟨l, ns, rfl, hl, hz, q⟩ := h
  rw [Vals.ref1 r]
  obtain ⟨its, rv, p, _⟩ := I.list (SqL.of hl)
  refine call_setL ns (I.ok.hd hc) p.isList (by simpa using rv.ints) (by unfold scanBound; omega) fun h' tk c R hcl hk => ?_
  have hn : H s.heap.objs.size = none := I.hok.fresh (Nat.le_refl _)
  exact ⟨.ref _, _, I.laid (t' := tk) hk (Nat.le_refl _) (setO_new R), rfl, q _ c hn hcl⟩
end
end Pu

set_option Elab.async false
set_option linter.all false
set_option maxRecDepth 100000
namespace Pu
open Pu.Rp (rp)
open PySem PySem.Spec PyProof.Rows L2
/-! xs[lo:hi:st], st a written number above 0 -/
def tSl3 (te : TE) (tl th : TO) (st : Nat) : TE := fun σ H Q => te σ H fun x H1 => tl σ H1 fun l H2 => th σ H2 fun u H3 => exists a xs, x = .ref a ∧ H3 a = some (.lst xs) ∧
  forall p, H3 p = none -> Q (.ref p) (upd H3 p (.lst ((sliceRange (sliceBounds l u (some (st : Int)) xs.length).1 (sliceBounds l u (some (st : Int)) xs.length).2.1 (sliceBounds l u (some (st : Int)) xs.length).2.2).filterMap (xs[·]?))))
theorem vals_pick {vs : List V} {us : List Value} (r : Vals vs us) : forall ks : List Nat, Vals (ks.filterMap (vs[·]?)) (ks.filterMap (us[·]?))
  | [] => .nil
  | k :: ks => by
    have ih := vals_pick r ks
    cases e : vs[k]? with
    | none =>
      have e2 := r.none_of e
      rw [List.filterMap_cons_none e, List.filterMap_cons_none e2]
      exact ih
    | some v =>
      obtain ⟨u, hu, ru⟩ := r.get e
      rw [List.filterMap_cons_some e, List.filterMap_cons_some hu]
      exact .cons ru ih
theorem pe_slice3 {X : Cx} {e : Expr} {lo hi : Option Expr} {te : TE} {tl th : TO} {n : Nat} {k : Nat} {p1 p2 pos : Pos} (hn : n ≠ 0) (he : PE X e te) (hl : PO X lo tl) (hh : PO X hi th) : PE X (.Subscript e (.Slice lo hi (some (.Constant (.int (n : Int)) k p1)) p2) pos) (tSl3 te tl th n) := by
  refine ⟨fun pins s σ H Q I h => ?_⟩
  refine Subscript_ (thn (he.run pins s σ H _ I h) fun v s1 ⟨x, H1, I1, r1, q1⟩ => ?_)
  have hst : PO X (some (.Constant (.int (n : Int)) k p1)) (tPart (tC (.int (n : Int)))) := po_some pe_int
  refine wpAny_Slice (thn (hl.run pins s1 σ H1 _ I1 q1) fun vl s2 ⟨l, H2, I2, pl, q2⟩ => thn (hh.run pins s2 σ H2 _ I2 q2) fun vu s3 ⟨u, H3, I3, pu, q3⟩ => ?_)
  refine thn (hst.run pins s3 σ H3 (fun o H4 => o = some (n : Int) ∧ H4 = H3) I3 ⟨_, rfl, rfl, rfl⟩) fun vs s4 ⟨o, H4, I4, ps, eo, e4⟩ => ?_
  subst eo e4
  obtain ⟨a, xs, ex, hx, q⟩ := q3
  subst ex
  cases r1
  have I5 : Inv X pins σ H4 { s4 with heap := s4.heap.push { cls := .type "slice", data := .fields #[vl, vu, vs] } } := I4.kept (t' := s4.toks) fun b ob q => Heap.get?_push_of_some _ q
  obtain ⟨its, r, ht, hz⟩ := I5.list (SqL.of hx)
  have hsl : (s4.heap.push { cls := .type "slice", data := .fields #[vl, vu, vs] }).IsSliceOf s4.heap.objs.size vl vu vs := Heap.IsSliceOf.new ..
  refine tail_any (ops := [.ref a, .ref s4.heap.objs.size]) ht.isList.typeIs (PySem.slot_list_getitem.lookup) ?_ (by with_unfolding_all rfl)
  have hz2 : its.toArray.size ≤ sizeLine := by rw [List.size_toArray, ← r.length]; exact hz
  refine wpAny_getItem_list_slice ht.isList hsl pl pu ps (fun z => hn (by have := Option.some.inj z; omega)) ?_ hz2
  have hl2 : its.length = xs.length := r.length.symm
  have epk : slicePick its.toArray l u (some (n : Int)) = ((sliceRange (sliceBounds l u (some (n : Int)) xs.length).1 (sliceBounds l u (some (n : Int)) xs.length).2.1 (sliceBounds l u (some (n : Int)) xs.length).2.2).filterMap (its[·]?)).toArray := by
    unfold slicePick
    rw [List.size_toArray, hl2]
    congr 2
    funext i
    simp
  have hsz := slicePick_size_le its.toArray l u (some (n : Int))
  rw [epk] at hsz ⊢
  have rv := vals_pick r (sliceRange (sliceBounds l u (some (n : Int)) xs.length).1 (sliceBounds l u (some (n : Int)) xs.length).2.1 (sliceBounds l u (some (n : Int)) xs.length).2.2)
  refine ⟨.ref _, _, I5.laid (t' := s4.toks) (fun b ob q => Heap.get?_push_of_some _ q) (Nat.le_refl _) ?_, rfl, q _ (I5.hok.fresh (Nat.le_refl _))⟩
  exact ⟨by rw [rv.length]; rw [List.size_toArray] at hsz; exact Nat.le_trans hsz hz2, _, 0, rv, Heap.get?_push_size _ rfl⟩
/-- what a slice with a step picks -/
def stepM {A : Type} (xs : List A) (lo hi : Option Int) (st : Nat) : List A := (sliceRange (sliceBounds lo hi (some (st : Int)) xs.length).1 (sliceBounds lo hi (some (st : Int)) xs.length).2.1 (sliceBounds lo hi (some (st : Int)) xs.length).2.2).filterMap (xs[·]?)
theorem al_pick {A : Type} {F : V -> A -> Prop} {vs : List V} {xs : List A} (r : Al F vs xs) : forall ks : List Nat, Al F (ks.filterMap (vs[·]?)) (ks.filterMap (xs[·]?))
  | [] => trivial
  | k :: ks => by
    have ih := al_pick r ks
    cases e : vs[k]? with
    | none =>
      have h1 := List.getElem?_eq_none_iff.mp e
      have e2 : xs[k]? = none := List.getElem?_eq_none_iff.mpr (by rw [← r.len]; exact h1)
      rw [List.filterMap_cons_none e, List.filterMap_cons_none e2]
      exact ih
    | some v =>
      obtain ⟨x, hx, rx⟩ := r.getV e
      rw [List.filterMap_cons_some e, List.filterMap_cons_some hx]
      exact ⟨rx, ih⟩
section
variable {K : Fg} {A B C D : Type} [Rp A] [Rp B] [Rp C] [Rp D]
variable {σ : L2.St} {G G' H H' : Hp} {L : Led} {M : List Addr} {te ta tb tc : TE} {tt tu : TT}
theorem en_sl3 {tl th : TO} {ma : Option (List A)} {ml mh : Option (Option Int)} {n : Nat} (ha : EvB K te σ H ma) (hl : EvP tl σ H ml) (hh : EvP th σ H mh) : EvN K (tSl3 te tl th n) σ H (o3 (fun a l h => some (stepM a l h n)) ma ml mh) := fun x hx H1 e Q q => by
  obtain ⟨a, l, h, e1, e2, e3, e4⟩ := o3s hx
  cases e4
  refine ha a e1 H1 e _ fun v H2 g2 r2 => hl l e2 H2 (e.trans g2) _ fun H3 g3 => hh h e3 H3 ((e.trans g2).trans g3) _ fun H4 g4 => ?_
  have g5 := (g2.trans g3).trans g4
  obtain ⟨p, vs, rfl, h2, h3⟩ := Rp.mono (g3.trans g4) r2
  have r4 : Al (rp K H4) ((sliceRange (sliceBounds l h (some (n : Int)) vs.length).1 (sliceBounds l h (some (n : Int)) vs.length).2.1 (sliceBounds l h (some (n : Int)) vs.length).2.2).filterMap (vs[·]?)) (stepM a l h n) := by
    unfold stepM
    rw [h3.len]
    exact al_pick h3 _
  exact ⟨p, vs, rfl, h2, fun p' hp => q p' _ _ (g5.back hp) (g5.trans (Gx.new hp)) upd_same (r4.mono fun _ _ => Rp.mono (Gx.new hp))⟩
/-- a slice of the script -/
theorem en_slS {tl th : TO} {ma : Option Scr} {ml mh : Option (Option Int)} (ha : EvB K te σ H ma) (hl : EvP tl σ H ml) (hh : EvP th σ H mh) : EvN K (tSl (rSlL K) te tl th) σ H (o3 (fun a l h => some (cutM a.l l h)) ma ml mh) := fun x hx H1 e Q q => by
  obtain ⟨a, l, h, e1, e2, e3, e4⟩ := o3s hx
  cases e4
  refine ha a e1 H1 e _ fun v H2 g2 r2 => hl l e2 H2 (e.trans g2) _ fun H3 g3 => hh h e3 H3 ((e.trans g2).trans g3) _ fun H4 g4 => ?_
  have g5 := (g2.trans g3).trans g4
  obtain ⟨p, rfl, h2⟩ := Rp.mono (g3.trans g4) r2
  exact ⟨p, _, rfl, h2, fun p' hp => q p' _ _ (g5.back hp) (g5.trans (Gx.new hp)) upd_same (al_cut (int_al (K := K) a.l))⟩
theorem eb_lenS {ma : Option Scr} (ha : EvB K ta σ H ma) : EvB K (tCB (fun xs H Q => ∃ p ys, xs = [.ref p] ∧ (SqL K H p ys ∨ SqT K H p ys) ∧ Q (.int ys.length) H) (tCons ta tNil)) σ H (o1 (fun x => some (x.l.length : Int)) ma) :=
  call1 (fun H v x c r hc Q q => by
    cases hc
    obtain ⟨p, rfl, h2⟩ := r
    refine ⟨p, _, rfl, .inl h2, ?_⟩
    rw [List.length_map]
    exact q _ H Gx.rfl rfl) ha
/-- zip of three -/
theorem wk_zip3 {a b c : Addr} {vs ws zs : List V} {xs : List A} {ys : List B} {us : List C} {S : Hp} (h : S a = some (.lst vs)) (r : Al (rp K S) vs xs) (h' : S b = some (.lst ws)) (r' : Al (rp K S) ws ys) (h2 : S c = some (.lst zs)) (r2 : Al (rp K S) zs us) :
    Wk K (Itz3 K a b c) ((xs.zip (ys.zip us)).map fun p => T3.mk p.1 p.2.1 p.2.2) S := by
  have hlen : ((xs.zip (ys.zip us)).map fun p => T3.mk p.1 p.2.1 p.2.2).length = min xs.length (min ys.length us.length) := by
    rw [List.length_map, List.length_zip, List.length_zip]
  have get : forall i, i < min xs.length (min ys.length us.length) -> exists v w z, vs[i]? = some v ∧ ws[i]? = some w ∧ zs[i]? = some z := fun i hi => by
    obtain ⟨v, hv, _⟩ := r.get (List.getElem?_eq_getElem (show i < xs.length by omega))
    obtain ⟨w, hw, _⟩ := r'.get (List.getElem?_eq_getElem (show i < ys.length by omega))
    obtain ⟨z, hz, _⟩ := r2.get (List.getElem?_eq_getElem (show i < us.length by omega))
    exact ⟨v, w, z, hv, hw, hz⟩
  refine ⟨fun i H hi e => ?_, fun H e => ⟨vs, ws, zs, ⟨SqL.of (e _ _ h), SqL.of (e _ _ h'), SqL.of (e _ _ h2)⟩, ?_⟩, fun i H v H' x e hx y => ?_⟩
  · rw [hlen] at hi
    obtain ⟨v, w, z, hv, hw, hz⟩ := get i hi
    exact ⟨vs, ws, zs, v, w, z, ⟨SqL.of (e _ _ h), SqL.of (e _ _ h'), SqL.of (e _ _ h2)⟩, hv, hw, hz⟩
  · rw [hlen, r.len, r'.len, r2.len]
    omega
  · obtain ⟨T, x1, y1, u1, rfl, hT, rfl, f1, f2, f3⟩ := y
    have q1 := f1 vs (SqL.of (e _ _ h))
    have q2 := f2 ws (SqL.of (e _ _ h'))
    have q3 := f3 zs (SqL.of (e _ _ h2))
    rw [List.getElem?_map] at hx
    obtain ⟨p, hp, rfl⟩ := Option.map_eq_some_iff.mp hx
    have hz := List.getElem?_zip_eq_some.mp hp
    have hz2 := List.getElem?_zip_eq_some.mp hz.2
    obtain ⟨v, hv, rv⟩ := r.get hz.1
    obtain ⟨w, hw, rw'⟩ := r'.get hz2.1
    obtain ⟨z, hz', rz⟩ := r2.get hz2.2
    rw [hv] at q1
    rw [hw] at q2
    rw [hz'] at q3
    cases q1; cases q2; cases q3
    have g := Gx.new (o := HO.tup [x1, y1, u1]) hT
    exact ⟨g, T, x1, y1, u1, rfl, upd_same, Rp.mono (e.trans g) rv, Rp.mono (e.trans g) rw', Rp.mono (e.trans g) rz⟩
def zip3 {A B C : Type} (xs : List A) (ys : List B) (us : List C) : List (T3 A B C) := (xs.zip (ys.zip us)).map fun p => T3.mk p.1 p.2.1 p.2.2
theorem ei_zip3 {ma : Option (List A)} {mb : Option (List B)} {mc : Option (List C)} (h : EvS K ta σ M H ma) (h' : EvS K tb σ M H mb) (h2 : EvS K tc σ M H mc) : EvI K (iZip3 K (tCons ta (tCons tb (tCons tc tNil)))) σ M H (o3 (fun a b c => some (zip3 a b c)) ma mb mc) := fun xs hx H1 e R q => by
  obtain ⟨a, b, c, e1, e2, e3, e4⟩ := o3s hx
  cases e4
  refine h a e1 H1 e _ fun v H2 g r => h' b e2 H2 (e.trans g) _ fun w H3 g3 r3 => h2 c e3 H3 ((e.trans g).trans g3) _ fun z H4 g4 r4 => ?_
  obtain ⟨p, vs, rfl, i2, i3⟩ := Rp.mono (mns_mono (M := M) (g3.trans g4)) r
  obtain ⟨p', ws, rfl, i4, i5⟩ := Rp.mono (mns_mono (M := M) g4) r3
  obtain ⟨p3, zs, rfl, i6, i7⟩ := r4
  exact ⟨p, p', p3, vs, ws, zs, rfl, ⟨SqL.of (mns_ex _ _ i2), SqL.of (mns_ex _ _ i4), SqL.of (mns_ex _ _ i6)⟩, q _ H4 ((g.trans g3).trans g4) (wk_zip3 i2 i3 i4 i5 i6 i7)⟩
end
end Pu

set_option Elab.async false
set_option linter.all false
set_option maxRecDepth 100000
set_option maxHeartbeats 2000000
namespace Pu
open Pu.Rp (rp)
open PySem PySem.Spec PyProof.Rows L2
section
variable {prog : Program} {w : World} {A : Around} {E : Value → Shared → Prop} {s : Shared}
/-- sorted(x), whatever x is collected to -/
theorem sorted_gen {x : Value} {ltv : Value → Value → Bool} {Pc : List Value -> Shared -> Prop} {Q : Value → Shared → Prop} (O : SrtO.Swo ltv)
    (hcol : forall (Q1 : List Value → Shared → Prop), (forall vs s1, Pc vs s1 -> Q1 vs s1) -> wpAny (model prog w) A.in1 (collect x) Q1 E s) (hz : forall vs s1, Pc vs s1 -> vs.length ≤ sizeLine)
    (hS : forall vs s1, Pc vs s1 -> 2 ≤ vs.length -> forall (h1 : Heap) (a : Addr), h1.get? a = some (seqObj "list" vs.toArray 0) -> (forall b o, s1.heap.get? b = some o -> b ≠ a ∧ h1.get? b = some o) -> SrtO.SortableO prog w A.in1.in1 { s1 with heap := h1 } a vs ltv)
    (h : forall vs s1 out h2 p c, Pc vs s1 -> SrtO.Srtd ltv out -> SrtO.Stb ltv out vs -> s1.heap.objs.size ≤ p -> h2.get? p = some (seqObj "list" out.toArray c) -> (forall b o, s1.heap.get? b = some o -> h2.get? b = some o) -> Q (.ref p) { s1 with heap := h2 }) :
    wpAny (model prog w) A (call (.builtin "sorted") [x]) Q E s := by
  refine Calls.call_function_entry kind_sorted plain_sorted entry_sorted (args_sorted1 _) ?_
  unfold Builtin.«sorted»
  refine wpAny_bind (m := checkCount "sorted" 1 1 _) (wpAny_pure (wpAny_bind (hcol _ fun vs s1 hP => ?_)))
  have z := hz vs s1 hP
  refine wpAny_bind (wpAny_newList ?_ z)
  have hoL : (s1.heap.push (seqObj "list" vs.toArray 0)).get? s1.heap.objs.size = some (seqObj "list" vs.toArray 0) := Heap.get?_push_size _ rfl
  have kp : forall b o, s1.heap.get? b = some o -> b ≠ s1.heap.objs.size ∧ (s1.heap.push (seqObj "list" vs.toArray 0)).get? b = some o := fun b o q => ⟨Nat.ne_of_lt (Heap.lt_size q), Heap.get?_push_of_some _ q⟩
  refine wpAny_bind (wpAny_holding (wpAny_call_entry slot_list_sort ⟨_, hoL, rfl⟩ entry_list_sort (SrtO.list_sort_ord O hoL z (fun h2 => hS vs s1 hP h2 _ _ hoL kp) fun out q1 q2 => ⟨_, rfl, wpAny_pure ⟨_, rfl, ?_⟩⟩) (args_list_sort _)))
  obtain ⟨c, hc⟩ := sortedHeap_at (vs := vs) (out := out.toArray) hoL
  refine h vs s1 out _ _ c hP q1 q2 (Nat.le_refl _) hc fun b o e => ?_
  have hlt := Heap.lt_size e
  rw [sortedHeap_old (Nat.ne_of_lt hlt) (by rw [Heap.size_push]; exact Nat.lt_succ_of_lt hlt)]
  exact Heap.get?_push_of_some _ e
end

/-! pairs of ints -/
def plt (p q : Int × Int) : Bool := SrtO.lexB p q
theorem plt_iff {p q : Int × Int} : plt p q = true ↔ p.1 < q.1 ∨ (p.1 = q.1 ∧ p.2 < q.2) := SrtO.lexB_iff
def ple (p q : Int × Int) : Bool := !plt q p
theorem ple_iff {p q : Int × Int} : ple p q = true ↔ p.1 < q.1 ∨ (p.1 = q.1 ∧ p.2 ≤ q.2) := by
  unfold ple
  have h := @plt_iff q p
  cases e : plt q p with
  | true =>
    have z := h.mp e
    constructor
    · intro q; cases q
    · intro q; omega
  | false =>
    constructor
    · intro _
      have n : ¬ (q.1 < p.1 ∨ (q.1 = p.1 ∧ q.2 < p.2)) := fun z => by rw [h.mpr z] at e; cases e
      omega
    · intro _; rfl
/-- pairs in order -/
def psort (x : List (Int × Int)) : List (Int × Int) := x.mergeSort ple
theorem psort_perm (x : List (Int × Int)) : (psort x).Perm x := List.mergeSort_perm _ _
theorem psort_le (x : List (Int × Int)) : (psort x).Pairwise fun p q => ple p q = true :=
  List.pairwise_mergeSort (fun a b c h1 h2 => by rw [ple_iff] at *; omega) (fun a b => by rw [Bool.or_eq_true, ple_iff, ple_iff]; omega) x
theorem pp_uniq {xs ys : List (Int × Int)} (p : xs.Perm ys) (h1 : xs.Pairwise fun p q => ple p q = true) (h2 : ys.Pairwise fun p q => ple p q = true) : xs = ys :=
  p.eq_of_pairwise (fun a b _ _ h h' => by
    rw [ple_iff] at h h'
    have e1 : a.1 = b.1 := by omega
    have e2 : a.2 = b.2 := by omega
    exact Prod.ext e1 e2) h1 h2
/-- sorted(x), x a list or a tuple of pairs of ints -/
def rSortE (K : Fg) : List V -> Hp -> VK -> Prop := fun vs H Q => exists (a : Addr) (xs : List V) (ps : List (Int × Int)), vs = [V.ref a] ∧ (H a = some (.lst xs) ∨ H a = some (.tup xs)) ∧ Al (rp K H) xs ps ∧
  forall ys p, H p = none -> Al (rp K H) ys (psort ps) -> Q (.ref p) (upd H p (.lst ys))
def prOf (H : Hp) (v : V) : Int × Int := match v with
  | .ref t => match H t with
    | some (.tup [.int i, .int j]) => (i, j)
    | _ => (0, 0)
  | _ => (0, 0)
theorem prOf_eq {K : Fg} {H : Hp} {v : V} {x : Int × Int} (h : rp K H v x) : prOf H v = x ∧ exists t, v = .ref t ∧ H t = some (.tup [.int x.1, .int x.2]) := by
  obtain ⟨t, u, w, rfl, h2, h3, h4⟩ := h
  have e3 : u = .int x.1 := h3
  have e4 : w = .int x.2 := h4
  subst e3 e4
  refine ⟨?_, t, rfl, h2⟩
  unfold prOf
  simp only [h2]
theorem al_pr {K : Fg} {H : Hp} : forall {vs : List V} {xs : List (Int × Int)}, Al (rp K H) vs xs -> vs.map (prOf H) = xs
  | [], [], _ => rfl
  | _ :: _, _ :: _, q => by rw [List.map_cons, (prOf_eq q.1).1, al_pr q.2]
  | [], _ :: _, q => q.elim
  | _ :: _, [], q => q.elim
theorem al_of {A : Type} {F : V -> A -> Prop} {f : V -> A} : forall {vs : List V}, (forall v, v ∈ vs -> F v (f v)) -> Al F vs (vs.map f)
  | [], _ => trivial
  | v :: vs, h => ⟨h v List.mem_cons_self, al_of fun u hu => h u (List.mem_cons_of_mem _ hu)⟩
section
variable {X : Cx}
theorem cr_sortE : CallR X (.builtin "sorted") (rSortE X.K) := by
  intro pins s σ H vs us Q I r h
  obtain ⟨a, xs, ps, rfl, hs, hx, q⟩ := h
  obtain ⟨u, rfl, ru⟩ := vals1 r
  obtain rfl : u = Value.ref a := ru
  have hmem : forall v, v ∈ xs -> exists t, v = .ref t ∧ H t = some (.tup [.int (prOf H v).1, .int (prOf H v).2]) := fun v hv => by
    obtain ⟨i, hi⟩ := List.getElem?_of_mem hv
    obtain ⟨x, hx1, hx2⟩ := hx.getV hi
    obtain ⟨e1, e2⟩ := prOf_eq hx2
    rw [e1]
    exact e2
  obtain ⟨T, o, its, n, hT, ho, hc, hd, rv, hz⟩ : exists T o its n, (T = "list" ∨ T = "tuple") ∧ s.heap.get? a = some o ∧ o.cls = .type T ∧ o.data = .seq (List.toArray its) n ∧ Vals xs its ∧ xs.length ≤ sizeLine := by
    rcases hs with hs | hs
    · obtain ⟨its, rv, ⟨o, n, ho, hc, _, hd⟩, hz⟩ := I.list (SqL.of hs)
      exact ⟨"list", o, its, n, .inl rfl, ho, hc, hd, rv, hz⟩
    · obtain ⟨its, rv, ⟨o, ho, hc, n, hd⟩, hz⟩ := I.tuple (SqT.of hs)
      exact ⟨"tuple", o, its, n, .inr rfl, ho, hc, hd, rv, hz⟩
  have hzi : its.toArray.size ≤ sizeLine := by rw [List.size_toArray, ← rv.length]; exact hz
  obtain ⟨e1, e2⟩ := refs_back rv fun x m => by
    obtain ⟨t, e, _⟩ := hmem x m
    exact ⟨t, e⟩
  refine sorted_gen (Pc := fun vs s1 => vs = its ∧ exists h', s1 = { s with heap := h' } ∧ forall b o', s.heap.get? b = some o' -> h'.get? b = some o') (SrtO.swo_lex fun v => prOf H (backV v)) (fun Q1 hQ => ?_) (fun vs s1 ⟨e, _⟩ => ?_) (fun vs s1 ⟨e, h', es, kp⟩ h2 h1 a' ha kk => ?_) fun vs s1 out h2 p c ⟨e, h', es, kp⟩ q1 q2 hp hg hk => ?_
  · exact wpAny_collect_seq a hT ho hc hd (fun h' kp => hQ _ _ ⟨by simp, h', rfl, kp⟩) hzi
  · rw [e, ← rv.length]; exact hz
  · subst e es
    refine SrtO.pairs_sortableO (s := { s with heap := h1 }) (by omega) (fun v hv => ?_) fun o e => ?_
    · obtain ⟨t, rfl⟩ := e2 v hv
      have hm : V.ref t ∈ xs := by rw [e1]; exact List.mem_map.mpr ⟨_, hv, rfl⟩
      obtain ⟨t', e, ht⟩ := hmem _ hm
      cases e
      obtain ⟨_, its2, r2, o2, ho2, hc2, n2, hd2⟩ := I.hok _ _ ht
      obtain ⟨u1, u2, rfl, ri, rj⟩ := vals2 r2
      obtain ⟨t1, rfl⟩ := ri
      obtain ⟨t2, rfl⟩ := rj
      exact ⟨t, o2, t1, t2, n2, rfl, (kk _ _ (kp _ _ ho2)).2, hc2, hd2⟩
    · have e' : some o = some (seqObj "list" vs.toArray 0) := e.symm.trans ha
      cases e'
      intro c
      exact absurd (Value.type.inj c) (by decide)
  · subst e es
    have h3 : ∀ u ∈ out, ∃ a, u = Value.ref a := fun u hu => e2 u (q2.perm.mem_iff.mp hu)
    have I1 : Inv X pins σ H { s with heap := h' } := I.kept (t' := s.toks) kp
    have hn : H p = none := I1.hok.fresh hp
    have pm : (out.map backV).Perm xs := by rw [e1]; exact q2.perm.map backV
    have al : Al (rp X.K H) (out.map backV) (psort ps) := by
      have a1 : Al (rp X.K H) (out.map backV) ((out.map backV).map (prOf H)) := al_of fun v hv => by
        obtain ⟨t, rfl, ht⟩ := hmem v (pm.mem_iff.mp hv)
        exact ⟨t, _, _, rfl, ht, rfl, rfl⟩
      have e3 : (out.map backV).map (prOf H) = psort ps := by
        refine pp_uniq ?_ ?_ (psort_le ps)
        · refine List.Perm.trans (pm.map (prOf H)) ?_
          rw [al_pr hx]
          exact (psort_perm ps).symm
        · rw [List.map_map]
          exact List.pairwise_map.mpr (q1.imp fun {x y} h => by
            show (!plt (prOf H (backV y)) (prOf H (backV x))) = true
            have h' : plt (prOf H (backV y)) (prOf H (backV x)) = false := h
            rw [h']; rfl)
      rw [e3] at a1
      exact a1
    refine ⟨.ref p, upd H p (.lst (out.map backV)), I1.laid (t' := s.toks) hk hp ⟨?_, out, c, vals_back h3, hg⟩, rfl, q _ p hn al⟩
    rw [pm.length_eq]
    exact hz
/-! a set of ints, any number of them -/
def rSortS (w : World) : List V -> Hp -> VK -> Prop := fun vs H Q => exists (a : Addr) (S : Int -> Bool) (n : Nat), vs = [V.ref a] ∧ H a = some (SetO w a S n) ∧
  forall (ns : List Int) (p : Addr), ns.Pairwise (· < ·) -> (forall k : Int, k ∈ ns ↔ S k = true) -> H p = none -> Q (.ref p) (upd H p (.lst (ns.map V.int)))
theorem cr_sortS (hc : X.calm = true) : CallR X (.builtin "sorted") (rSortS X.w) := by
  intro pins s σ H vs us Q I r h
  obtain ⟨a, S, n, rfl, ha, q⟩ := h
  have R := setO_get I ha
  rw [Vals.ref1 r]
  obtain ⟨o, es, ep, t, ho, hex, hd, g, nd, hm, hb, hf, hn, hr, hl⟩ := R
  have hh : X.A.in1.handled = none := by simpa using I.ok.hd hc
  refine sorted_gen (Pc := fun vs s1 => vs.Perm (es.toList.map (·.2)) ∧ (forall b o, s.heap.get? b = some o -> s1.heap.get? b = some o) ∧ s1.gens = s.gens ∧ s1.os = s.os ∧ s.heap.objs.size ≤ s1.heap.objs.size) SrtO.swo_int (fun Q1 hQ => ?_) (fun vs s1 ⟨pm, _⟩ => ?_) (fun vs s1 ⟨pm, _⟩ h2 h1 a' ha' kk => ?_) fun vs s1 out h2 p c ⟨pm, kp, g1, o1, z1⟩ q1 q2 hp hg hk => ?_
  · exact collect_set hh ⟨o, ho, hex.1, hd⟩ hf hb hr hl fun s1 vs k1 hz g1 o1 pm => hQ vs s1 ⟨pm, k1, g1, o1, hz⟩
  · rw [pm.length_eq, List.length_map, Array.length_toList]
    exact fits_of_scanBound hb
  · refine SrtO.ints_sortable (ns := vs.map Builtin.Re.reRawOf) (ints_of vs fun v hv => ?_) h2
    obtain ⟨e, he, qe⟩ := List.mem_map.mp (pm.mem_iff.mp hv)
    obtain ⟨k, tk, h1, _⟩ := g e he
    exact ⟨k, tk, by rw [← qe]; exact h1⟩
  · have hI : IntsAre vs (vs.map Builtin.Re.reRawOf) := ints_of vs fun v hv => by
      obtain ⟨e, he, qe⟩ := List.mem_map.mp (pm.mem_iff.mp hv)
      obtain ⟨k, tk, h1, _⟩ := g e he
      exact ⟨k, tk, by rw [← qe]; exact h1⟩
    obtain ⟨k1, k2, k3⟩ := SrtO.ints_out hI q1 q2
    have pk : (vs.map Builtin.Re.reRawOf).Perm (es.toList.map keyOf) := by
      have z := pm.map Builtin.Re.reRawOf
      rw [List.map_map] at z
      exact z
    have pn : (out.map SrtO.iv).Perm (es.toList.map keyOf) := k2.trans pk
    have hp' : s.heap.objs.size ≤ p := Nat.le_trans z1 hp
    have hnp : H p = none := I.hok.fresh hp'
    have kk : forall b o, s.heap.get? b = some o -> h2.get? b = some o := fun b o e => hk b o (kp b o e)
    have hlen : ((out.map SrtO.iv).map V.int).length ≤ sizeLine := by
      rw [List.length_map, pn.length_eq, List.length_map, Array.length_toList]
      exact fits_of_scanBound hb
    have J : Inv X pins σ (upd H p (.lst ((out.map SrtO.iv).map V.int))) { s with heap := h2, gens := s1.gens, drawn := s1.drawn, toks := s1.toks } :=
      I.call (ch := []) (Un.laid kk hp' hnp) (I.hok.laid kk hp' ⟨hlen, out, c, vals_of_ints k1, hg⟩) (by rw [g1]; exact I.bare) (fun _ z => nomatch z)
    have e : { s1 with heap := h2 } = { s with heap := h2, gens := s1.gens, drawn := s1.drawn, toks := s1.toks } := by
      cases s1
      cases s
      cases o1
      rfl
    rw [e]
    exact ⟨.ref p, _, J, rfl, q _ p (lt_of_le_nodup _ k3 (pn.nodup_iff.mpr nd)) (fun k => by rw [pn.mem_iff, ← hm k]) hnp⟩
end
end Pu

set_option Elab.async false
set_option linter.all false
set_option maxRecDepth 100000
namespace Pu
open Pu.Rp (rp)
open PySem PySem.Spec PyProof.Rows L2
/-! dicts with int keys -/
def dput {B : Type} (d : List (Int × B)) (k : Int) (x : B) : List (Int × B) := if (d.any fun p => decide (p.1 = k)) = true then d.map (fun p => if p.1 = k then (p.1, x) else p) else d ++ [(k, x)]
def Da {B : Type} (F : V -> B -> Prop) : List (Key × V) -> List (Int × B) -> Prop
  | [], [] => True
  | p :: r, x :: xs => p.1 = .inl x.1 ∧ F p.2 x.2 ∧ Da F r xs
  | _, _ => False
theorem Da.mono {B : Type} {F F' : V -> B -> Prop} (h : forall v x, F v x -> F' v x) : forall {kvs : List (Key × V)} {d : List (Int × B)}, Da F kvs d -> Da F' kvs d
  | [], [], _ => trivial
  | _ :: _, _ :: _, q => ⟨q.1, h _ _ q.2.1, Da.mono h q.2.2⟩
  | [], _ :: _, q => q.elim
  | _ :: _, [], q => q.elim
theorem Da.len {B : Type} {F : V -> B -> Prop} : forall {kvs : List (Key × V)} {d : List (Int × B)}, Da F kvs d -> kvs.length = d.length
  | [], [], _ => rfl
  | _ :: _, _ :: _, q => by simp only [List.length_cons, Da.len q.2.2]
  | [], _ :: _, q => q.elim
  | _ :: _, [], q => q.elim
theorem Da.any {B : Type} {F : V -> B -> Prop} (k : Int) : forall {kvs : List (Key × V)} {d : List (Int × B)}, Da F kvs d -> (kvs.any fun p => decide (p.1 = .inl k)) = d.any fun p => decide (p.1 = k)
  | [], [], _ => rfl
  | p :: r, x :: xs, q => by
    rw [List.any_cons, List.any_cons, Da.any k q.2.2, q.1]
    congr 1
    by_cases e : x.1 = k
    · rw [decide_eq_true e, e]; simp
    · rw [decide_eq_false e, decide_eq_false (fun z => e (Sum.inl.inj z))]
  | [], _ :: _, q => q.elim
  | _ :: _, [], q => q.elim
theorem Da.map {B : Type} {F : V -> B -> Prop} {k : Int} {v : V} {x : B} (h : F v x) : forall {kvs : List (Key × V)} {d : List (Int × B)}, Da F kvs d -> Da F (kvs.map fun p => if p.1 = .inl k then (p.1, v) else p) (d.map fun p => if p.1 = k then (p.1, x) else p)
  | [], [], _ => trivial
  | p :: r, y :: ys, q => by
    refine ⟨?_, ?_, Da.map h q.2.2⟩
    · by_cases e : y.1 = k
      · have e2 : p.1 = .inl k := by rw [q.1, e]
        simp only [if_pos e, if_pos e2]
        exact q.1
      · have e2 : ¬ p.1 = .inl k := fun z => e (Sum.inl.inj (q.1.symm.trans z))
        simp only [if_neg e, if_neg e2]
        exact q.1
    · by_cases e : y.1 = k
      · have e2 : p.1 = .inl k := by rw [q.1, e]
        simp only [if_pos e, if_pos e2]
        exact h
      · have e2 : ¬ p.1 = .inl k := fun z => e (Sum.inl.inj (q.1.symm.trans z))
        simp only [if_neg e, if_neg e2]
        exact q.2.1
  | [], _ :: _, q => q.elim
  | _ :: _, [], q => q.elim
theorem Da.snoc {B : Type} {F : V -> B -> Prop} {k : Int} {v : V} {x : B} (h : F v x) : forall {kvs : List (Key × V)} {d : List (Int × B)}, Da F kvs d -> Da F (kvs ++ [(.inl k, v)]) (d ++ [(k, x)])
  | [], [], _ => ⟨rfl, h, trivial⟩
  | _ :: _, _ :: _, q => ⟨q.1, q.2.1, Da.snoc h q.2.2⟩
  | [], _ :: _, q => q.elim
  | _ :: _, [], q => q.elim
theorem Da.put {B : Type} {F : V -> B -> Prop} {kvs : List (Key × V)} {d : List (Int × B)} {k : Int} {v : V} {x : B} (q : Da F kvs d) (h : F v x) : Da F (putK kvs (.inl k) v) (dput d k x) := by
  unfold putK dput
  rw [Da.any k q]
  split
  · exact Da.map h q
  · exact Da.snoc h q
theorem Da.key {B : Type} {F : V -> B -> Prop} : forall {kvs : List (Key × V)} {d : List (Int × B)} {i : Nat} {x : Int}, Da F kvs d -> (d.map (·.1))[i]? = some x -> exists v, kvs[i]? = some (.inl x, v)
  | [], [], _, _, _, h => by simp at h
  | p :: _, y :: _, 0, x, q, h => by
    have e : y.1 = x := by simpa using h
    refine ⟨p.2, ?_⟩
    rw [← e, ← q.1]
    rfl
  | _ :: _, _ :: _, i + 1, x, q, h => by
    obtain ⟨v, h1⟩ := Da.key (i := i) (x := x) q.2.2 (by simpa using h)
    exact ⟨v, by simpa using h1⟩
  | [], _ :: _, _, _, q, _ => q.elim
  | _ :: _, [], _, _, q, _ => q.elim
theorem dput_len {B : Type} (d : List (Int × B)) (k : Int) (x : B) : (dput d k x).length ≤ d.length + 1 := by
  unfold dput
  split
  · rw [List.length_map]; omega
  · rw [List.length_append]; simp
section
variable {K : Fg} {A B C D : Type} [Rp A] [Rp B] [Rp C] [Rp D]
variable {σ : L2.St} {G G' H H' : Hp} {L L1 L2' : Led} {M : List Addr} {te ta tb tc td : TE} {tt tu : TT} {X : Ends} {t1 t2 u : TS} {i : Nat}
/-- {k: v} -/
theorem st_dict1 [Im B] {k : Int} {m : Option B} {x : B} (h : forall H1, Gx H H1 -> EvB K te σ H1 m) (hm : m = some x) (a : At G H L)
    (kk : forall p v G2 H2, H p = none -> Gx G G2 -> Gx H H2 -> At G2 H2 ((p, .dK [(.inl k, v)]) :: L) -> rp K G2 v x -> u X (σ.set i (some (.ref p))) H2) : tSeq (tAsg (tDisp [(tC (.int k), te)]) (gName i)) u X σ H := by
  intro p hp
  have e1 : Gx H (upd H p (.dK [])) := Gx.new hp
  refine h _ e1 x hm _ Gx.rfl _ fun v H2 e2 r => ?_
  have hd : H2 p = some (.dK []) := e2 _ _ upd_same
  refine ⟨hd, [(.inl k, v)], rfl, by show 1 ≤ 15; decide, ?_⟩
  have a1 : At G (upd H p (.dK [])) ((p, .dK []) :: L) := a.add hp trivial
  have a2 : At G H2 ([] ++ (p, .dK []) :: L) := a1.grow e2
  have a3 := a2.set (o' := .dK (mergeK [] [(.inl k, v)])) trivial
  have em : mergeK [] [((.inl k : Key), v)] = [(.inl k, v)] := rfl
  rw [em] at a3 ⊢
  refine kk p v (hid (upd H2 p (.dK [(.inl k, v)])) ((p, .dK [(.inl k, v)]) :: L)) _ hp a3.gh ?_ a3.hid (Im.im (fun b xs hb => a3.tx b xs ?_) r)
  · exact (e1.trans e2).mut hp
  · exact Tx.mut (fun ys q => by rw [hd] at q; cases q) b xs hb
/-- d[k] = v -/
theorem st_dput [Im B] {p : Addr} {kvs : List (Key × V)} {d : List (Int × B)} {mk : Option Int} {k : Int} {m : Option B} {x : B} (h : EvB K tc σ H m) (hm : m = some x) (hs : forall H1, Gx H H1 -> forall Q : VK, Q (.ref p) H1 -> td σ H1 Q) (hk : EvB K te σ H mk) (hkk : mk = some k)
    (a : At G H (L1 ++ (p, .dK kvs) :: L2')) (r : Da (rp K G) kvs d) (hz : d.length < 100000)
    (kk : forall kvs' G2 H2, Gx G G2 -> At G2 (upd H2 p (.dK kvs')) (L1 ++ (p, .dK kvs') :: L2') -> Gx H H2 -> Da (rp K G2) kvs' (dput d k x) -> u X σ (upd H2 p (.dK kvs'))) :
    tSeq (sDPut td te tc) u X σ H := by
  have hp := (a.led (p, .dK kvs) (by simp)).1
  refine h x hm H Gx.rfl _ fun v H2 e2 r2 => hs H2 e2 _ (hk k hkk H2 e2 _ fun w H3 e3 rw' => ?_)
  have e4 : w = .int k := rw'
  subst e4
  have hd : H3 p = some (.dK kvs) := e3 _ _ (e2 _ _ hp)
  refine ⟨p, _, rfl, .inl ⟨kvs, .inl k, hd, rfl, by rw [r.len]; exact Evl.sz_lt hz, rfl⟩, ?_⟩
  have a3 := (a.grow (e2.trans e3)).set (o' := .dK (putK kvs (.inl k) v)) trivial
  refine kk (putK kvs (.inl k) v) (hid (upd H3 p (.dK (putK kvs (.inl k) v))) (L1 ++ (p, .dK (putK kvs (.inl k) v)) :: L2')) H3 a3.gh a3.hid (e2.trans e3) ((r.mono fun _ _ => Rp.mono a3.gh).put (Im.im (fun b xs hb => a3.tx b xs ?_) (Rp.mono e3 r2)))
  exact Tx.mut (fun ys q => by rw [hd] at q; cases q) b xs hb
/-- a comprehension over the keys of one's own dict -/
theorem en_lcK [Im A] {g : TG} {b : Bd Int} {vs : List Nat} {p : Addr} {kvs : List (Key × V)} {F : V -> B -> Prop} {d : List (Int × B)} {c : Int -> Option Bool} {f : Int -> Option A} (hs : σ[i]? = some (some (.ref p))) (hd : H p = some (.dK kvs)) (hr : Da F kvs d) (hg : TgOk K g b) (hb : BdIn b vs)
    (ht : forall x σ2 H', Gx (mns H [p]) H' -> b x (wipe σ vs) H' σ2 -> EvT tt σ2 H' (c x)) (he : forall x σ2 H', Gx (mns H [p]) H' -> b x (wipe σ vs) H' σ2 -> EvB K te σ2 H' (f x)) :
    EvN K (tLockE (tLc (iKeys (tVar i)) g tt te vs)) σ H ((lim 100000 (d.map (·.1))).bind (comp c f)) := fun r hr' H1 e1 Q q => by
  have hd1 : H1 p = some (.dK kvs) := e1 _ _ hd
  refine ⟨p, .dK kvs, hd1, trivial, fun od => ?_⟩
  have em1 : Gx (mns H [p]) (upd H1 p (.frz od (.dK kvs))) := fun a o h => by
    have n : a ≠ p := fun z => by rw [z, mns_in (List.mem_singleton.mpr rfl)] at h; cases h
    rw [upd_ne n]
    exact e1 _ _ (mns_ex _ _ h)
  refine ⟨_, hs, p, od, rfl, .inl ⟨kvs, upd_same, ?_⟩⟩
  intro D hD
  have nD : D ≠ p := fun z => by rw [z, upd_same] at hD; cases hD
  have hD1 : H1 D = none := by rw [upd_ne nD] at hD; exact hD
  generalize hks : d.map (·.1) = ks at hr'
  have hkl : kvs.length = ks.length := by rw [hr.len, ← hks, List.length_map]
  unfold lim at hr'
  by_cases hz : ks.length ≤ 100000
  · rw [if_pos hz] at hr'
    have hr2 : comp c f ks = some r := hr'
    refine ⟨fun i m Hc => m = ks.length - i ∧ i ≤ ks.length ∧ Gx (upd H1 p (.frz od (.dK kvs))) Hc ∧ exists vs' ys r', Hc D = some (.lst vs') ∧ Al (rp K Hc) vs' ys ∧ ys.length ≤ i ∧ comp c f (ks.drop i) = some r' ∧ r = ys ++ r',
      ⟨ks.length, by simp, Nat.zero_le _, Gx.new hD, [], [], r, upd_same, trivial, Nat.le_refl _, hr2, rfl⟩, ?_⟩
    rintro i m Hc ⟨rfl, hle, gc, vs', ys, r', hDc, ral, hlen, hcomp, rfl⟩
    have hpc : Hc p = some (.frz od (.dK kvs)) := gc _ _ upd_same
    by_cases hlt : i < ks.length
    · refine .inr ⟨⟨hpc, by rw [hkl]; exact hlt⟩, fun Hn => i + 1 ≤ ks.length ∧ Gx (upd H1 p (.frz od (.dK kvs))) Hn ∧ exists vs' ys' r'', Hn D = some (.lst vs') ∧ Al (rp K Hn) vs' ys' ∧ ys'.length ≤ i + 1 ∧ comp c f (ks.drop (i + 1)) = some r'' ∧ ys ++ r' = ys' ++ r'',
        fun Hn hn => ⟨ks.length - (i + 1), by omega, rfl, hn.1, hn.2⟩, fun v Hy hy => ?_⟩
      obtain ⟨rfl, k, v', hk, rfl⟩ := hy
      have hx : (d.map (·.1))[i]? = some ks[i] := by rw [hks]; exact List.getElem?_eq_getElem hlt
      obtain ⟨v2, hv2⟩ := hr.key hx
      rw [hv2] at hk
      have ek : k = .inl ks[i] := (congrArg Prod.fst (Option.some.inj hk)).symm
      subst ek
      have gH : Gx (mns H [p]) Hy := em1.trans gc
      refine hg ks[i] (.int ks[i]) (wipe σ vs) Hy _ rfl fun σ2 hσ => ⟨(hb _ _ _ _ hσ).trans (wipe_wipe σ vs), ?_⟩
      rw [List.drop_eq_getElem_cons hlt] at hcomp
      rcases comp_cons hcomp with ⟨hc, y, r2, hf, h2, rfl⟩ | ⟨hc, h2⟩
      · refine ht _ σ2 Hy gH hσ true hc Hy Gx.rfl _ fun H3 g3 => ite_tt ?_
        refine he _ σ2 Hy gH hσ y hf H3 g3 _ fun u H4 g4 r4 => ?_
        have gD := g3.trans g4
        have h4 : H4 D = some (.lst vs') := gD _ _ hDc
        have tx : Tx H4 (upd H4 D (.lst (vs' ++ [u]))) := Tx.mut fun xs q => by rw [h4] at q; cases q
        refine ⟨vs', h4, ?_, hlt, (gc.trans gD).mut hD, vs' ++ [u], ys ++ [y], r2, upd_same, ?_, ?_, h2, by simp⟩
        · rw [ral.len]; exact Evl.sz_lt (by omega)
        · exact ((ral.mono fun _ _ => Rp.mono gD).app (Al.one r4)).mono fun _ _ => Im.im tx
        · rw [List.length_append]; simp only [List.length_cons, List.length_nil]; omega
      · refine ht _ σ2 Hy gH hσ false hc Hy Gx.rfl _ fun H3 g3 => ite_ff ?_
        exact ⟨hlt, gc.trans g3, vs', ys, r', g3 _ _ hDc, ral.mono fun _ _ => Rp.mono g3, by omega, h2, rfl⟩
    · have hi : i = ks.length := by omega
      subst hi
      rw [List.drop_length] at hcomp
      cases hcomp
      rw [List.append_nil] at *
      refine .inl ⟨⟨hpc, by rw [hkl]; exact Nat.le_refl _⟩, hpc, ?_⟩
      have tx : Tx Hc (upd Hc p (.dK kvs)) := Tx.mut fun xs q => by rw [hpc] at q; cases q
      refine q D vs' _ hD1 (fun a o h => ?_) (by rw [upd_ne nD]; exact hDc) (ral.mono fun _ _ => Im.im tx)
      by_cases n : a = p
      · rw [n] at h ⊢
        rw [hd1] at h
        cases h
        exact upd_same
      · rw [upd_ne n]
        exact gc _ _ (by rw [upd_ne n]; exact h)
  · rw [if_neg hz] at hr'
    cases hr'
end
end Pu

set_option Elab.async false
set_option linter.all false
set_option maxRecDepth 100000
namespace Pu
open Pu.Rp (rp)
open PySem PySem.Spec PyProof.Rows L2
/-! short names for what a program's text comes to -/
def fAdd (i j : Int) : Option Int := some (i + j)
def fSub (i j : Int) : Option Int := some (i - j)
def fMul (i j : Int) : Option Int := if mulOk i j = true then some (i * j) else none
def fDiv (i j : Int) : Option Int := if 0 < j ∧ j < 1073741824 then some (i / j) else none
def fMod (i j : Int) : Option Int := if 0 < j then some (i % j) else none
def fPow (i j : Int) : Option Int := if powOk i j = true then some (i ^ j.toNat) else none
def fNeg (i : Int) : Option Int := some (-i)
def fLt (i j : Int) : Option Bool := some (decide (i < j))
def fLe (i j : Int) : Option Bool := some (decide (i ≤ j))
def fGt (i j : Int) : Option Bool := some (decide (j < i))
def fGe (i j : Int) : Option Bool := some (decide (j ≤ i))
def fEq {A : Type} [DecidableEq A] (x y : A) : Option Bool := some (decide (x = y))
def fNe {A : Type} [DecidableEq A] (x y : A) : Option Bool := some (!decide (x = y))
def fIxT {A : Type} (x : Tl A) (i : Int) : Option A := ix x.l i
def fLen {A : Type} (x : List A) : Option Int := some (x.length : Int)
def fLenT {A : Type} (x : Tl A) : Option Int := some (x.l.length : Int)
def fLenS (x : Scr) : Option Int := some (x.l.length : Int)
def fMax (i j : Int) : Option Int := some (imax i j)
def fMin (i j : Int) : Option Int := some (imin i j)
def fSum (x : List Int) : Option Int := some x.sum
def fAny (x : List Bool) : Option Bool := some (x.any id)
def fAll (x : List Bool) : Option Bool := some (x.all id)
def fSortI (x : List Int) : Option (List Int) := some (isort x)
def fSortP (x : List (Int × Int)) : Option (List (Int × Int)) := some (psort x)
def fSortPT (x : Tl (Int × Int)) : Option (List (Int × Int)) := some (psort x.l)
def fList {A : Type} (x : List A) : Option (List A) := some x
def fListT {A : Type} (x : Tl A) : Option (List A) := some x.l
def fTuple {A : Type} (x : List A) : Option (Tl A) := some ⟨x⟩
def fPair {A B : Type} (x : A) (y : B) : Option (A × B) := some (x, y)
def fTrip {A B C : Type} (x : A) (y : B) (z : C) : Option (T3 A B C) := some ⟨x, y, z⟩
def fCons {A : Type} (x : A) (y : List A) : Option (List A) := some (x :: y)
def fCut {A : Type} (x : List A) (l h : Option Int) : Option (List A) := some (cutM x l h)
def fCutS (x : Scr) (l h : Option Int) : Option (List Int) := some (cutM x.l l h)
def fCutT {A : Type} (x : Tl A) (l h : Option Int) : Option (Tl A) := some ⟨cutM x.l l h⟩
def fStep {A : Type} (n : Nat) (x : List A) (l h : Option Int) : Option (List A) := some (stepM x l h n)
def fCat {A : Type} (x y : List A) : Option (List A) := szOk (x ++ y)
def fCatT {A : Type} (x y : Tl A) : Option (Tl A) := (szOk (x.l ++ y.l)).map Tl.mk
def fTup {A : Type} (x : List A) : Option (Tl A) := (szOk x).map Tl.mk
def fFst {A B : Type} (x : A × B) : Option A := some x.1
def fSnd {A B : Type} (x : A × B) : Option B := some x.2
def fTru {A : Type} (x : List A) : Option Bool := some (!x.isEmpty)
def fTruT {A : Type} (x : Tl A) : Option Bool := some (!x.l.isEmpty)
def fZip {A B : Type} (x : List A) (y : List B) : Option (List (A × B)) := some (x.zip y)
def fZip3 {A B C : Type} (x : List A) (y : List B) (z : List C) : Option (List (T3 A B C)) := some (zip3 x y z)
def fRng1 (j : Int) : Option (List Int) := if rgOk j = true then some (rng 0 j) else none
def fRng2 (i j : Int) : Option (List Int) := if rgOk i = true ∧ rgOk j = true then some (rng i j) else none
def fRev {A : Type} (x : List A) : Option (List A) := some x.reverse
def sins (x : Int) : List Int -> List Int
  | [] => [x]
  | y :: r => if x < y then x :: y :: r else if x = y then y :: r else y :: sins x r
/-- what sorted(set(..)) tells -/
def sset (x : List Int) : List Int := x.foldr sins []
def fSortSet (x : List Int) : Option (List Int) := if x.length ≤ 1000 then some (sset x) else none
theorem mem_sins {x k : Int} : forall {l : List Int}, k ∈ sins x l ↔ k = x ∨ k ∈ l
  | [] => by simp [sins]
  | y :: r => by
    have ih := mem_sins (x := x) (k := k) (l := r)
    unfold sins
    split
    · simp
    · split
      · rename_i h; subst h; simp
      · simp only [List.mem_cons, ih]
        constructor
        · rintro (h | h | h)
          · exact .inr (.inl h)
          · exact .inl h
          · exact .inr (.inr h)
        · rintro (h | h | h)
          · exact .inr (.inl h)
          · exact .inl h
          · exact .inr (.inr h)
theorem mem_sset {k : Int} : forall {x : List Int}, k ∈ sset x ↔ k ∈ x
  | [] => by simp [sset]
  | y :: r => by
    have ih := mem_sset (k := k) (x := r)
    show k ∈ sins y (sset r) ↔ _
    rw [mem_sins, ih, List.mem_cons]
theorem pw_sins {x : Int} : forall {l : List Int}, l.Pairwise (· < ·) -> (sins x l).Pairwise (· < ·)
  | [], _ => by simp [sins]
  | y :: r, h => by
    have h' := List.pairwise_cons.mp h
    unfold sins
    split
    · rename_i hl
      refine List.pairwise_cons.mpr ⟨fun z hz => ?_, h⟩
      rcases List.mem_cons.mp hz with rfl | hz
      · exact hl
      · exact Int.lt_trans hl (h'.1 z hz)
    · split
      · exact h
      · refine List.pairwise_cons.mpr ⟨fun z hz => ?_, pw_sins h'.2⟩
        rcases mem_sins.mp hz with rfl | hz
        · omega
        · exact h'.1 z hz
theorem pw_sset : forall x : List Int, (sset x).Pairwise (· < ·)
  | [] => .nil
  | y :: r => pw_sins (pw_sset r)
theorem lt_uniq {xs ys : List Int} (h1 : xs.Pairwise (· < ·)) (h2 : ys.Pairwise (· < ·)) (hm : forall k, k ∈ xs ↔ k ∈ ys) : xs = ys :=
  pw_uniq ((List.perm_ext_iff_of_nodup (h1.imp fun h => Int.ne_of_lt h) (h2.imp fun h => Int.ne_of_lt h)).mpr hm) (h1.imp fun h => Int.le_of_lt h) (h2.imp fun h => Int.le_of_lt h)
def oComp {I A : Type} (c : I -> Option Bool) (f : I -> Option A) (mx : Option (List I)) : Option (List A) := mx.bind fun xs => (lim 100000 xs).bind (comp c f)
def oChain {A B C : Type} (f : A -> B -> Option Bool) (g : B -> C -> Option Bool) (ma : Option A) (mb : Option B) (mc : Option C) : Option Bool :=
  ma.bind fun a => mb.bind fun b => (f a b).bind fun k => if k = true then mc.bind fun c => g b c else some false
def fYes {A : Type} (_ : A) : Option Bool := some true
theorem itt {A : Type} {a b r : A} (h : (if true = true then a else b) = r) : a = r := h
theorem itf {A : Type} {a b r : A} (h : (if false = true then a else b) = r) : b = r := h
section
variable {K : Fg} {A B C D : Type} [Rp A] [Rp B] [Rp C] [Rp D]
variable {σ : L2.St} {G G' H H' : Hp} {L L1 L2' : Led} {M : List Addr} {te ta tb tc td : TE} {tt tu : TT} {X : Ends} {t1 t2 u : TS} {i : Nat} {ma : Option A} {mb : Option B} {mc : Option C} {mi mj : Option Int}
theorem x_add (ha : EvB K ta σ H mi) (hb : EvB K tb σ H mj) : EvB K (tOp (rI0 fun i j => .int (i + j)) ta tb) σ H (o2 fAdd mi mj) := eb_op rb_add ha hb
theorem x_sub (ha : EvB K ta σ H mi) (hb : EvB K tb σ H mj) : EvB K (tOp (rI0 fun i j => .int (i - j)) ta tb) σ H (o2 fSub mi mj) := eb_op rb_sub ha hb
theorem x_mul (ha : EvB K ta σ H mi) (hb : EvB K tb σ H mj) : EvB K (tOp (rI CMul fun i j => .int (i * j)) ta tb) σ H (o2 fMul mi mj) := eb_op rb_mul ha hb
theorem x_div (ha : EvB K ta σ H mi) (hb : EvB K tb σ H mj) : EvB K (tOp (rI CDiv fun i j => .int (i / j)) ta tb) σ H (o2 fDiv mi mj) := eb_op rb_fdiv ha hb
theorem x_mod (ha : EvB K ta σ H mi) (hb : EvB K tb σ H mj) : EvB K (tOp (rI (fun _ j => 0 < j) fun i j => .int (i % j)) ta tb) σ H (o2 fMod mi mj) := eb_op rb_mod ha hb
theorem x_pow (ha : EvB K ta σ H mi) (hb : EvB K tb σ H mj) : EvB K (tOp (rI CPow fun i j => .int (i ^ j.toNat)) ta tb) σ H (o2 fPow mi mj) := eb_op rb_pow ha hb
theorem x_neg (ha : EvB K ta σ H mi) : EvB K (tUn (rU fun i => .int (-i)) ta) σ H (o1 fNeg mi) := eb_un rb_neg ha
theorem x_lt (ha : EvB K ta σ H mi) (hb : EvB K tb σ H mj) : EvB K (tOp (rI0 fun i j => .bl (decide (i < j))) ta tb) σ H (o2 fLt mi mj) := eb_op rb_lt ha hb
theorem x_le (ha : EvB K ta σ H mi) (hb : EvB K tb σ H mj) : EvB K (tOp (rI0 fun i j => .bl (decide (i ≤ j))) ta tb) σ H (o2 fLe mi mj) := eb_op rb_le ha hb
theorem x_gt (ha : EvB K ta σ H mi) (hb : EvB K tb σ H mj) : EvB K (tOp (rI0 fun i j => .bl (decide (j < i))) ta tb) σ H (o2 fGt mi mj) := eb_op rb_gt ha hb
theorem x_ge (ha : EvB K ta σ H mi) (hb : EvB K tb σ H mj) : EvB K (tOp (rI0 fun i j => .bl (decide (j ≤ i))) ta tb) σ H (o2 fGe mi mj) := eb_op rb_ge ha hb
theorem x_eq [DecidableEq A] [Eqd A] {mb : Option A} (h : Eqd.dep A ≤ 64) (ha : EvB K ta σ H ma) (hb : EvB K tb σ H mb) : EvB K (tOp (rEqD K) ta tb) σ H (o2 fEq ma mb) := eb_op (rb_eq h) ha hb
theorem x_ne [DecidableEq A] [Eqd A] {mb : Option A} (h : Eqd.dep A ≤ 64) (ha : EvB K ta σ H ma) (hb : EvB K tb σ H mb) : EvB K (tOp (rNeD K) ta tb) σ H (o2 fNe ma mb) := eb_op (rb_ne h) ha hb
theorem x_lele {mk : Option Int} (ha : EvB K ta σ H mi) (hb : EvB K tb σ H mj) (hc : EvB K tc σ H mk) : EvB K (tChain (rI0 fun i j => .bl (decide (i ≤ j))) (rI0 fun i j => .bl (decide (i ≤ j))) ta tb tc) σ H (oChain fLe fLe mi mj mk) := eb_chain rb_le rb_le ha hb hc
theorem x_ltle {mk : Option Int} (ha : EvB K ta σ H mi) (hb : EvB K tb σ H mj) (hc : EvB K tc σ H mk) : EvB K (tChain (rI0 fun i j => .bl (decide (i < j))) (rI0 fun i j => .bl (decide (i ≤ j))) ta tb tc) σ H (oChain fLt fLe mi mj mk) := eb_chain rb_lt rb_le ha hb hc
theorem x_ixL {ma : Option (List A)} (ha : EvB K ta σ H ma) (hb : EvB K tb σ H mj) : EvB K (tOp (rIxL K) ta tb) σ H (o2 ix ma mj) := eb_op rb_ixL ha hb
theorem x_ixT {ma : Option (Tl A)} (ha : EvB K ta σ H ma) (hb : EvB K tb σ H mj) : EvB K (tOp (rIxT K) ta tb) σ H (o2 fIxT ma mj) := eb_op rb_ixT ha hb
theorem x_fst {ma : Option (A × B)} (ha : EvB K ta σ H ma) : EvB K (tOp (rIxT K) ta (tC (.int 0))) σ H (o1 fFst ma) := eb_fst rfl ha
theorem x_snd {ma : Option (A × B)} (ha : EvB K ta σ H ma) : EvB K (tOp (rIxT K) ta (tC (.int 1))) σ H (o1 fSnd ma) := eb_snd rfl ha
theorem x_lenL {ma : Option (List A)} (ha : EvB K ta σ H ma) : EvB K (tCB (fun xs H Q => ∃ p ys, xs = [.ref p] ∧ (SqL K H p ys ∨ SqT K H p ys) ∧ Q (.int ys.length) H) (tCons ta tNil)) σ H (o1 fLen ma) := eb_lenL ha
theorem x_lenT {ma : Option (Tl A)} (ha : EvB K ta σ H ma) : EvB K (tCB (fun xs H Q => ∃ p ys, xs = [.ref p] ∧ (SqL K H p ys ∨ SqT K H p ys) ∧ Q (.int ys.length) H) (tCons ta tNil)) σ H (o1 fLenT ma) := eb_lenT ha
theorem x_lenS {ma : Option Scr} (ha : EvB K ta σ H ma) : EvB K (tCB (fun xs H Q => ∃ p ys, xs = [.ref p] ∧ (SqL K H p ys ∨ SqT K H p ys) ∧ Q (.int ys.length) H) (tCons ta tNil)) σ H (o1 fLenS ma) := eb_lenS ha
theorem x_max (ha : EvB K ta σ H mi) (hb : EvB K tb σ H mj) : EvB K (tCB (fun xs H Q => ∃ i j, xs = [.int i, .int j] ∧ Q (.int (if j > i then j else i)) H) (tCons ta (tCons tb tNil))) σ H (o2 fMax mi mj) := eb_max2 ha hb
theorem x_min (ha : EvB K ta σ H mi) (hb : EvB K tb σ H mj) : EvB K (tCB (fun xs H Q => ∃ i j, xs = [.int i, .int j] ∧ Q (.int (if j < i then j else i)) H) (tCons ta (tCons tb tNil))) σ H (o2 fMin mi mj) := eb_min2 ha hb
theorem x_sum {ma : Option (List Int)} (ha : EvB K ta σ H ma) : EvB K (tCB (rSum K) (tCons ta tNil)) σ H (o1 fSum ma) := eb_sum ha
theorem x_any {ma : Option (List Bool)} (ha : EvB K ta σ H ma) : EvB K (tCB (rAny K) (tCons ta tNil)) σ H (o1 fAny ma) := eb_any ha
theorem x_all {ma : Option (List Bool)} (ha : EvB K ta σ H ma) : EvB K (tCB (rAll K) (tCons ta tNil)) σ H (o1 fAll ma) := eb_all ha
theorem x_sortI {ma : Option (List Int)} (ha : EvB K ta σ H ma) : EvN K (tCB (rSortedI K) (tCons ta tNil)) σ H (o1 fSortI ma) := en_sorted ha
theorem x_sortP {ma : Option (List (Int × Int))} (ha : EvB K ta σ H ma) : EvN K (tCB (rSortE K) (tCons ta tNil)) σ H (o1 fSortP ma) :=
  call1L (fun H v x c r hc Q q => by
    cases hc
    obtain ⟨p, vs, rfl, h2, h3⟩ := r
    exact ⟨p, vs, x, rfl, .inl h2, h3, fun ys p' hp r => q p' ys hp r⟩) ha
theorem x_sortPT {ma : Option (Tl (Int × Int))} (ha : EvB K ta σ H ma) : EvN K (tCB (rSortE K) (tCons ta tNil)) σ H (o1 fSortPT ma) :=
  call1L (fun H v x c r hc Q q => by
    cases hc
    obtain ⟨p, vs, rfl, h2, h3⟩ := r
    exact ⟨p, vs, x.l, rfl, .inr h2, h3, fun ys p' hp r => q p' ys hp r⟩) ha
/-- sorted(set(xs)) -/
theorem x_sortSet {w : World} {ma : Option (List Int)} (ha : EvB K ta σ H ma) : EvN K (tCB (rSortS w) (tCons (tCB (rSetL1 w) (tCons ta tNil)) tNil)) σ H (o1 fSortSet ma) := fun x hx H1 e Q q => by
  obtain ⟨a, e1, e3⟩ := o1s hx
  unfold fSortSet at e3
  by_cases hz : a.length ≤ 1000
  · rw [if_pos hz] at e3
    cases e3
    refine ha a e1 H1 e _ fun v H2 g2 r2 => ?_
    obtain ⟨p, vs, rfl, h2, h3⟩ := r2
    rw [al_int h3] at h2
    refine ⟨p, a, rfl, h2, hz, fun s c hs hc => ⟨s, _, c, rfl, upd_same, fun ns p' hp1 hm hp => ?_⟩⟩
    have gs := Gx.new (o := SetO w s (fun j => decide (j ∈ a)) c) hs
    have e5 : ns = sset a := lt_uniq hp1 (pw_sset a) fun k => by rw [hm k, decide_eq_true_iff, mem_sset]
    subst e5
    exact q p' _ _ (g2.back (gs.back hp)) ((g2.trans gs).trans (Gx.new hp)) upd_same (int_al _)
  · rw [if_neg hz] at e3; cases e3
theorem x_list {ma : Option (List A)} (ha : EvB K ta σ H ma) : EvN K (tCB (fun xs H Q => ∃ p ys, xs = [.ref p] ∧ (SqL K H p ys ∨ SqT K H p ys) ∧ ∀ l, H l = none → Q (.ref l) (upd H l (.lst ys))) (tCons ta tNil)) σ H (o1 fList ma) := en_list ha
theorem x_listT {ma : Option (Tl A)} (ha : EvB K ta σ H ma) : EvN K (tCB (fun xs H Q => ∃ p ys, xs = [.ref p] ∧ (SqL K H p ys ∨ SqT K H p ys) ∧ ∀ l, H l = none → Q (.ref l) (upd H l (.lst ys))) (tCons ta tNil)) σ H (o1 fListT ma) := en_listT ha
theorem x_tuple {ma : Option (List A)} (ha : EvB K ta σ H ma) : EvB K (tCB (fun xs H Q => ∃ p ys, xs = [.ref p] ∧ ((SqL K H p ys ∧ ∀ l, H l = none → Q (.ref l) (upd H l (.tup ys))) ∨ (SqT K H p ys ∧ Q (.ref p) H))) (tCons ta tNil)) σ H (o1 fTuple ma) := eb_tuple ha
theorem x_pair (ha : EvB K ta σ H ma) (hb : EvB K tb σ H mb) : EvB K (tTup (tCons ta (tCons tb tNil))) σ H (o2 fPair ma mb) := eb_tup2 ha hb
theorem x_trip (ha : EvB K ta σ H ma) (hb : EvB K tb σ H mb) (hc : EvB K tc σ H mc) : EvB K (tTup (tCons ta (tCons tb (tCons tc tNil)))) σ H (o3 fTrip ma mb mc) := eb_tup3 ha hb hc
theorem l_nil : EvL (A := A) K tNil σ H (some []) := el_nil
theorem l_cons {tr : TA} {mr : Option (List A)} (ha : EvB K ta σ H ma) (hr : EvL K tr σ H mr) : EvL K (tCons ta tr) σ H (o2 fCons ma mr) := el_cons ha hr
theorem x_lst {tr : TA} {mr : Option (List A)} (h : EvL K tr σ H mr) : EvN K (tLst tr) σ H (o1 szOk mr) := en_lst h
theorem x_tup {tr : TA} {mr : Option (List A)} (h : EvL K tr σ H mr) : EvB K (tTup tr) σ H (o1 fTup mr) := eb_tupl h
theorem x_cut {tl th : TO} {ma : Option (List A)} {ml mh : Option (Option Int)} (ha : EvB K te σ H ma) (hl : EvP tl σ H ml) (hh : EvP th σ H mh) : EvN K (tSl (rSlL K) te tl th) σ H (o3 fCut ma ml mh) := en_sl ha hl hh
theorem x_cutS {tl th : TO} {ma : Option Scr} {ml mh : Option (Option Int)} (ha : EvB K te σ H ma) (hl : EvP tl σ H ml) (hh : EvP th σ H mh) : EvN K (tSl (rSlL K) te tl th) σ H (o3 fCutS ma ml mh) := en_slS ha hl hh
theorem x_cutT {tl th : TO} {ma : Option (Tl A)} {ml mh : Option (Option Int)} (ha : EvB K te σ H ma) (hl : EvP tl σ H ml) (hh : EvP th σ H mh) : EvB K (tSl (rSlA K) te tl th) σ H (o3 fCutT ma ml mh) := eb_slT ha hl hh
theorem x_step {tl th : TO} {ma : Option (List A)} {ml mh : Option (Option Int)} {n : Nat} (ha : EvB K te σ H ma) (hl : EvP tl σ H ml) (hh : EvP th σ H mh) : EvN K (tSl3 te tl th n) σ H (o3 (fStep n) ma ml mh) := en_sl3 ha hl hh
theorem x_rev {ma : Option (List A)} (ha : EvB K ta σ H ma) : EvN K (tRevL K ta) σ H (o1 fRev ma) := fun x hx H1 e Q q => by
  obtain ⟨a, e1, e3⟩ := o1s hx
  cases e3
  refine ha a e1 H1 e _ fun v H2 g2 r2 => ?_
  obtain ⟨p, vs, rfl, h2, h3⟩ := r2
  exact ⟨p, vs, rfl, SqL.of h2, fun p' hp => q p' _ _ (g2.back hp) (g2.trans (Gx.new hp)) upd_same (h3.rev.mono fun _ _ => Rp.mono (Gx.new hp))⟩
theorem x_cat {ma mb : Option (List A)} (ha : EvB K ta σ H ma) (hb : EvB K tb σ H mb) : EvN K (tOp rCat ta tb) σ H (o2 fCat ma mb) := en_cat ha hb
theorem x_catT {ma mb : Option (Tl A)} (ha : EvB K ta σ H ma) (hb : EvB K tb σ H mb) : EvB K (tOp (rCatA K) ta tb) σ H (o2 fCatT ma mb) := fun x hx H1 e Q q => by
  obtain ⟨a, b, e1, e2, e3⟩ := o2s hx
  obtain ⟨y, e4, e5⟩ := Option.map_eq_some_iff.mp e3
  obtain ⟨rfl, hz⟩ := szOks e4
  subst e5
  refine ha a e1 H1 e _ fun v H2 g2 r2 => hb b e2 H2 (e.trans g2) _ fun w H3 g3 r3 => ?_
  obtain ⟨p, vs, rfl, h2, h3⟩ := Rp.mono g3 r2
  obtain ⟨p2, vs2, rfl, h4, h5⟩ := r3
  refine ⟨p, p2, vs, vs2, rfl, rfl, SqT.of h2, SqT.of h4, ?_, fun h0 => q _ _ (g2.trans g3) ⟨p2, vs2, rfl, h4, ?_⟩, fun _ h0 => q _ _ (g2.trans g3) ⟨p, vs, rfl, h2, ?_⟩, fun _ _ p' hp => q _ _ ((g2.trans g3).trans (Gx.new hp)) ⟨p', _, rfl, upd_same, (h3.app h5).mono fun _ _ => Rp.mono (Gx.new hp)⟩⟩
  · rw [h3.len, h5.len, ← List.length_append]; exact Evl.sz_of hz
  · have := h3.app h5
    rw [h0] at this
    exact this
  · have := h3.app h5
    rw [h0, List.append_nil] at this
    exact this
theorem t_tru {ma : Option (List A)} (ha : EvB K ta σ H ma) : EvT (fun σ H Q => ta σ H fun x H' => ∃ k, TruV K x H' k ∧ Q k H') σ H (o1 fTru ma) := fun b hb H1 e Q q => by
  obtain ⟨a, e1, e3⟩ := o1s hb
  cases e3
  refine ha a e1 H1 e _ fun v H2 g2 r2 => ?_
  obtain ⟨p, vs, rfl, h2, h3⟩ := r2
  refine ⟨_, .inl ⟨vs, SqL.of h2, rfl⟩, ?_⟩
  have e6 : (!vs.isEmpty) = !a.isEmpty := by
    have := h3.len
    cases vs <;> cases a <;> first | rfl | (simp at this)
  rw [e6]
  exact q H2 g2
theorem t_truT {ma : Option (Tl A)} (ha : EvB K ta σ H ma) : EvT (fun σ H Q => ta σ H fun x H' => ∃ k, TruV K x H' k ∧ Q k H') σ H (o1 fTruT ma) := fun b hb H1 e Q q => by
  obtain ⟨a, e1, e3⟩ := o1s hb
  cases e3
  refine ha a e1 H1 e _ fun v H2 g2 r2 => ?_
  obtain ⟨p, vs, rfl, h2, h3⟩ := r2
  refine ⟨_, .inr (.inl ⟨vs, SqT.of h2, rfl⟩), ?_⟩
  have e6 : (!vs.isEmpty) = !a.l.isEmpty := by
    have := h3.len
    cases e7 : a.l <;> cases vs <;> first | rfl | (rw [e7] at this; simp at this)
  rw [e6]
  exact q H2 g2
theorem i_zip {ma : Option (List A)} {mb : Option (List B)} (h : EvS K ta σ M H ma) (h' : EvS K tb σ M H mb) : EvI K (iZip K (tCons ta (tCons tb tNil))) σ M H (o2 fZip ma mb) := ei_zip h h'
theorem i_zip3 {ma : Option (List A)} {mb : Option (List B)} {mc : Option (List C)} (h : EvS K ta σ M H ma) (h' : EvS K tb σ M H mb) (h2 : EvS K tc σ M H mc) : EvI K (iZip3 K (tCons ta (tCons tb (tCons tc tNil)))) σ M H (o3 fZip3 ma mb mc) := ei_zip3 h h' h2
theorem i_rng1 (h : EvB K ta σ H mi) : EvI K (iRng1 (tCons ta tNil)) σ M H (o1 fRng1 mi) := ei_rng1 h
theorem i_rng2 (h : EvB K ta σ H mi) (h' : EvB K tb σ H mj) : EvI K (iRng2 (tCons ta (tCons tb tNil))) σ M H (o2 fRng2 mi mj) := ei_rng2 h h'
theorem i_list {ma : Option (List A)} (h : EvS K ta σ M H ma) : EvI K (iList K ta) σ M H ma := ei_list h
theorem i_tup {ma : Option (Tl A)} (h : EvS K ta σ M H ma) : EvI K (iTup K ta) σ M H (ma.map Tl.l) := ei_tup h
theorem i_enum {ma : Option (List A)} (h : EvS K ta σ M H ma) : EvI K (iEnum K (tCons ta tNil)) σ M H (ma.map enum) := ei_enum h
/-- a new list is not among what may change -/
theorem es_n [Im A] {ma : Option (List A)} (h : EvN K te σ H ma) (hM : forall p, p ∈ M -> exists o, H p = some o ∧ Mu o) : EvS K te σ M H ma := fun x hx H1 e1 Q q => h x hx H1 e1 Q fun p vs H2 hp g h2 r => by
  have np : p ∉ M := fun z => by
    obtain ⟨o, ho, _⟩ := hM p z
    rw [e1 _ _ ho] at hp; cases hp
  refine q (.ref p) H2 g ⟨p, vs, rfl, (mns_out np).trans h2, r.mono fun _ _ => Im.im fun b xs hb => ?_⟩
  have z : b ∉ M := fun y => by
    obtain ⟨o, ho, mu⟩ := hM b y
    have := (e1.trans g) b o ho
    rw [this] at hb
    rw [Option.some.inj hb] at mu
    exact mu
  exact (mns_out z).trans hb
theorem x_lc {I : Type} [Rp I] [Im A] {wi : TI} {g : TG} {b : Bd I} {vs : List Nat} {mx : Option (List I)} {c : I -> Option Bool} {f : I -> Option A} (hi : EvI K wi σ [] H mx) (hg : TgOk K g b) (hb : BdIn b vs)
    (ht : forall x σ2 H', Gx H H' -> b x (wipe σ vs) H' σ2 -> EvT tt σ2 H' (c x)) (he : forall x σ2 H', Gx H H' -> b x (wipe σ vs) H' σ2 -> EvB K te σ2 H' (f x)) : EvN K (tLc wi g tt te vs) σ H (oComp c f mx) := en_lc hi hg hb ht he
theorem x_lcK [Im A] {g : TG} {b : Bd Int} {vs : List Nat} {p : Addr} {kvs : List (Key × V)} {F : V -> B -> Prop} {d : List (Int × B)} {c : Int -> Option Bool} {f : Int -> Option A} (hs : σ[i]? = some (some (.ref p))) (hd : H p = some (.dK kvs)) (hr : Da F kvs d) (hg : TgOk K g b) (hb : BdIn b vs)
    (ht : forall x σ2 H', Gx (mns H [p]) H' -> b x (wipe σ vs) H' σ2 -> EvT tt σ2 H' (c x)) (he : forall x σ2 H', Gx (mns H [p]) H' -> b x (wipe σ vs) H' σ2 -> EvB K te σ2 H' (f x)) : EvN K (tLockE (tLc (iKeys (tVar i)) g tt te vs)) σ H (oComp c f (some (d.map (·.1)))) := en_lcK hs hd hr hg hb ht he
theorem t_yes : EvT tYes σ H (some true) := fun b hb H1 e Q q => by
  cases hb
  exact q H1 Gx.rfl
end
end Pu

set_option Elab.async false
set_option linter.all false
set_option maxRecDepth 100000
namespace Pu
open Pu.Rp (rp)
open PySem PySem.Spec PyProof.Rows L2
/-! helpers for printed proofs -/
def fApp {A : Type} (xs : List A) (y : A) : Option (List A) := if xs.length < 100000 then some (xs ++ [y]) else none
theorem fApps {A : Type} {xs zs : List A} {y : A} (h : fApp xs y = some zs) : zs = xs ++ [y] ∧ xs.length < 100000 := by
  unfold fApp at h
  split at h
  · cases h; exact ⟨rfl, by assumption⟩
  · cases h
def fExt {A : Type} (xs ys : List A) : Option (List A) := if xs.length + ys.length ≤ 100000 then some (xs ++ ys) else none
theorem fExts {A : Type} {xs zs ys : List A} (h : fExt xs ys = some zs) : zs = xs ++ ys ∧ xs.length + ys.length ≤ 100000 := by
  unfold fExt at h
  split at h
  · cases h; exact ⟨rfl, by assumption⟩
  · cases h
def fSetL {A : Type} (xs : List A) (i : Int) (y : A) : Option (List A) := (ixN xs.length i).map fun j => xs.set j y
theorem fSets {A : Type} {xs zs : List A} {i : Int} {y : A} (h : fSetL xs i y = some zs) : exists j, ixN xs.length i = some j ∧ zs = xs.set j y := by
  obtain ⟨j, h1, h2⟩ := Option.map_eq_some_iff.mp h
  exact ⟨j, h1, h2.symm⟩
/-- the last one, and what is ahead of it -/
def fPop {A : Type} (xs : List A) : Option (A × List A) := (xs[xs.length - 1]?).map fun x => (x, xs.dropLast)
theorem fPops {A : Type} {xs : List A} {r : A × List A} (h : fPop xs = some r) : xs[xs.length - 1]? = some r.1 ∧ r.2 = xs.dropLast := by
  obtain ⟨x, h1, h2⟩ := Option.map_eq_some_iff.mp h
  subst h2
  exact ⟨h1, rfl⟩
def fDput {B : Type} (d : List (Int × B)) (k : Int) (x : B) : Option (List (Int × B)) := if d.length < 100000 then some (dput d k x) else none
theorem fDputs {B : Type} {d r : List (Int × B)} {k : Int} {x : B} (h : fDput d k x = some r) : r = dput d k x ∧ d.length < 100000 := by
  unfold fDput at h
  split at h
  · cases h; exact ⟨rfl, by assumption⟩
  · cases h
theorem At.hM {G H : Hp} {L : Led} {M : List Addr} (a : At G H L) (h : forall p, p ∈ M -> p ∈ L.map (·.1)) : forall p, p ∈ M -> G p = none := fun p hp => by
  obtain ⟨o, ho, e⟩ := List.mem_map.mp (h p hp)
  rw [← e]
  exact (a.led o ho).2.1
theorem At.hMu {G H : Hp} {L : Led} {M : List Addr} (a : At G H L) (h : forall p, p ∈ M -> p ∈ L.map (·.1)) : forall p, p ∈ M -> exists o, H p = some o ∧ Mu o := fun p hp => by
  obtain ⟨o, ho, e⟩ := List.mem_map.mp (h p hp)
  rw [← e]
  exact ⟨o.2, (a.led o ho).1, (a.led o ho).2.2⟩
theorem At.mn {G H : Hp} {L : Led} {M : List Addr} (a : At G H L) (h : forall p, p ∈ M -> p ∈ L.map (·.1)) : Gx G (mns H M) := mns_of a.ex (a.hM h)
section
variable {K : Fg} {A : Type} [Rp A] {G H : Hp} {L : Led} {M : List Addr} {σ : L2.St} {i : Nat}
theorem es_mv {p : Addr} {vs : List V} {xs : List A} (hs : σ[i]? = some (some (.ref p))) (a : At G H L) (hp : (p, HO.lst vs) ∈ L) (r : Al (rp K G) vs xs) (h : forall p, p ∈ M -> p ∈ L.map (·.1)) (hn : p ∉ M) : EvS K (tVar i) σ M H (some xs) := fun x hx H1 e1 Q q => by
  cases hx
  refine ⟨_, hs, q _ H1 Gx.rfl ⟨p, vs, rfl, (mns_out hn).trans (e1 _ _ (a.led _ hp).1), r.mono fun _ _ => Rp.mono ((a.mn h).trans (mns_mono e1))⟩⟩
end
end Pu
namespace Pu
open Pu.Rp (rp)
open PySem PySem.Spec PyProof.Rows L2
theorem finr {S R : Type} {k : S -> Option R} {res : S ⊕ R} {r r' : R} (h : res = .inr r) (hm : fin k res = some r') : r = r' := by
  subst h
  exact Option.some.inj hm
theorem brar {S S' R : Type} {k : S -> Option (S' ⊕ R)} {res : S ⊕ R} {r : R} {o : S' ⊕ R} (h : res = .inr r) (hm : braR k res = some o) : o = .inr r := by
  subst h
  exact (Option.some.inj hm).symm
theorem finl {S R : Type} {k : S -> Option R} {s : S} {r : Option R} (hm : fin k (.inl s) = r) : k s = r := hm
theorem bral {S S' R : Type} {k : S -> Option (S' ⊕ R)} {s : S} {r : Option (S' ⊕ R)} (hm : braR k (.inl s) = r) : k s = r := hm
theorem al_dl {A : Type} {F : V -> A -> Prop} {vs : List V} {xs : List A} (q : Al F vs xs) : Al F vs.dropLast xs.dropLast := by
  rw [List.dropLast_eq_take, List.dropLast_eq_take, q.len]
  exact q.take _
section
variable {K : Fg} {A B : Type} [Rp A] [Rp B] {G H : Hp} {L : Led} {M : List Addr} {σ : L2.St} {te ta : TE} {t1 u : TS} {X : Ends} {j i : Nat}
/-- a list whose items stand as they stood ahead of the loop -/
def WkL (K : Fg) (J : It) (xs : List A) (S : Hp) : Prop :=
  (forall i H, i < xs.length -> Gx S H -> J.go i H) ∧ (forall H, Gx S H -> J.stop xs.length H) ∧ (forall i H v H' x, Gx S H -> xs[i]? = some x -> J.yld i H v H' -> H' = H ∧ rp K S v x)
def EvJ (K : Fg) (wi : TI) (σ : L2.St) (M : List Addr) (H : Hp) (m : Option (List A)) : Prop :=
  forall xs, m = some xs -> forall H1, Gx H H1 -> forall R : It -> Hp -> Prop, (forall J H2, Gx H1 H2 -> WkL K J xs (mns H2 M) -> R J H2) -> wi σ H1 R
theorem j_list {ma : Option (List A)} (h : EvS K ta σ M H ma) : EvJ K (iList K ta) σ M H ma := fun xs hx H1 e R q =>
  h xs hx H1 e _ fun v H2 g r => by
    obtain ⟨a, vs, rfl, h2, h3⟩ := r
    refine ⟨a, rfl, ⟨vs, SqL.of (mns_ex _ _ h2)⟩, q _ H2 g ⟨fun i H hi e => ?_, fun H e => ⟨vs, SqL.of (e _ _ h2), by rw [h3.len]; exact Nat.le_refl _⟩, fun i H v H' x e hx y => ?_⟩⟩
    · obtain ⟨v, hv, _⟩ := h3.get (List.getElem?_eq_getElem hi)
      exact ⟨vs, v, SqL.of (e _ _ h2), hv⟩
    · obtain ⟨rfl, y⟩ := y
      obtain ⟨w, hw, rw'⟩ := h3.get hx
      have q := y vs (SqL.of (e _ _ h2))
      rw [hw] at q
      cases q
      exact ⟨rfl, rw'⟩
theorem st_forJ {wi : TI} {g : TG} {mx : Option (List A)} {xs : List A} (hi : EvJ K wi σ M H mx) (hx : mx = some xs)
    (k : forall J H2, Gx H H2 -> WkL K J xs (mns H2 M) -> exists W : Nat -> Nat -> L2.St -> Hp -> Prop, (exists m, W 0 m σ H2) ∧ forall i m σ H, W i m σ H ->
      (J.stop i H ∧ u X σ H) ∨ (J.go i H ∧ exists N : L2.St -> Hp -> Prop, (forall σ' H', N σ' H' -> exists m', m' < m ∧ W (i + 1) m' σ' H') ∧ forall x H', J.yld i H x H' -> g x σ H' fun σ2 H2 => t1 { X with nx := N, ct := N, bk := u X } σ2 H2)) : tSeq (tFor wi g t1) u X σ H :=
  hi xs hx H Gx.rfl _ fun J H2 e wk => k J H2 e wk
theorem fold_runJ {S : Type} {J : It} {xs : List A} {Sh : Hp} {f : S -> A -> Option S} {s0 s1 : S} {E0 : Ends} {H2 : Hp} {E1 : L2.St -> Hp -> Prop} (wk : WkL K J xs Sh) (hl : foldO f s0 xs = some s1)
    (In : S -> L2.St -> Hp -> Prop) (hS : forall s σ' H', In s σ' H' -> Gx Sh H') (h0 : In s0 σ H2)
    (hs : forall s x s' σ' H' v, x ∈ xs -> f s x = some s' -> In s σ' H' -> rp K Sh v x -> t1 { E0 with nx := In s', ct := In s', bk := E1 } (σ'.set j (some v)) H')
    (hd : forall σ' H', In s1 σ' H' -> E1 σ' H') :
    exists W : Nat -> Nat -> L2.St -> Hp -> Prop, (exists m, W 0 m σ H2) ∧ forall i m σ H, W i m σ H ->
      (J.stop i H ∧ E1 σ H) ∨ (J.go i H ∧ exists N : L2.St -> Hp -> Prop, (forall σ' H', N σ' H' -> exists m', m' < m ∧ W (i + 1) m' σ' H') ∧ forall x H', J.yld i H x H' -> gName j x σ H' fun σ2 H2 => t1 { E0 with nx := N, ct := N, bk := E1 } σ2 H2) := by
  refine ⟨fun i m σ H => m = xs.length - i ∧ i ≤ xs.length ∧ exists s, In s σ H ∧ foldO f s (xs.drop i) = some s1, ⟨xs.length, by simp, Nat.zero_le _, s0, h0, hl⟩, ?_⟩
  rintro i m σ' Hc ⟨rfl, hle, s, hin, hm⟩
  have gS := hS _ _ _ hin
  obtain ⟨go, stop, yld⟩ := wk
  by_cases hlt : i < xs.length
  · rw [List.drop_eq_getElem_cons hlt] at hm
    cases hf : f s xs[i] with
    | none => unfold foldO at hm; rw [hf] at hm; cases hm
    | some s' =>
      have hm' : foldO f s' (xs.drop (i + 1)) = some s1 := by
        unfold foldO at hm; rw [hf] at hm; exact hm
      refine .inr ⟨go i Hc hlt gS, In s', fun σ3 H3 hN => ⟨xs.length - (i + 1), by omega, rfl, hlt, s', hN, hm'⟩, fun v Hy hy => ?_⟩
      obtain ⟨rfl, ry⟩ := yld i Hc v Hy _ gS (List.getElem?_eq_getElem hlt) hy
      exact hs s xs[i] s' σ' _ v (List.getElem_mem hlt) hf hin ry
  · have hi : i = xs.length := by omega
    subst hi
    rw [List.drop_length] at hm
    cases hm
    exact .inl ⟨stop Hc gS, hd σ' Hc hin⟩
/-- a comprehension whose elements are new lists -/
theorem x_lcL {I : Type} [Rp I] [Im A] {wi : TI} {g : TG} {b : Bd I} {vs : List Nat} {mx : Option (List I)} {c : I -> Option Bool} {f : I -> Option (List A)} {tt : TT} (hi : EvI K wi σ [] H mx) (hg : TgOk K g b) (hb : BdIn b vs)
    (ht : forall x σ2 H', Gx H H' -> b x (wipe σ vs) H' σ2 -> EvT tt σ2 H' (c x)) (he : forall x σ2 H', Gx H H' -> b x (wipe σ vs) H' σ2 -> EvN K te σ2 H' (f x)) : EvB K (tLc wi g tt te vs) σ H (oComp c f mx) := fun r hr H1 e1 Q q => by
  cases mx with
  | none => cases hr
  | some xs =>
    have hr' : (lim 100000 xs).bind (comp c f) = some r := hr
    unfold lim at hr'
    by_cases hz : xs.length ≤ 100000
    · rw [if_pos hz] at hr'
      have hr2 : comp c f xs = some r := hr'
      refine hi xs rfl H1 e1 _ fun J H2 e2 wk => ?_
      rw [mns_nil] at wk
      intro D hD
      obtain ⟨go, stop, yld⟩ := wk
      refine ⟨fun i m Hc => m = xs.length - i ∧ i ≤ xs.length ∧ Gx H2 Hc ∧ exists vs' ys r', Hc D = some (.lst vs') ∧ Al (rp K (mns Hc [D])) vs' ys ∧ ys.length ≤ i ∧ comp c f (xs.drop i) = some r' ∧ r = ys ++ r',
        ⟨xs.length, by simp, Nat.zero_le _, Gx.new hD, [], [], r, upd_same, trivial, Nat.le_refl _, hr2, rfl⟩, ?_⟩
      rintro i m Hc ⟨rfl, hle, gc, vs', ys, r', hDc, ral, hlen, hcomp, rfl⟩
      by_cases hlt : i < xs.length
      · refine .inr ⟨go i Hc hlt gc, fun Hn => i + 1 ≤ xs.length ∧ Gx H2 Hn ∧ exists vs' ys' r'', Hn D = some (.lst vs') ∧ Al (rp K (mns Hn [D])) vs' ys' ∧ ys'.length ≤ i + 1 ∧ comp c f (xs.drop (i + 1)) = some r'' ∧ ys ++ r' = ys' ++ r'',
          fun Hn hn => ⟨xs.length - (i + 1), by omega, rfl, hn.1, hn.2⟩, fun v Hy hy => ?_⟩
        have hx := List.getElem?_eq_getElem hlt
        obtain ⟨gy, ry⟩ := yld i Hc v Hy _ gc hx hy
        have gH : Gx H Hy := (e1.trans e2).trans (gc.trans gy)
        refine hg _ v (wipe σ vs) Hy _ ry fun σ2 hσ => ⟨(hb _ _ _ _ hσ).trans (wipe_wipe σ vs), ?_⟩
        rw [List.drop_eq_getElem_cons hlt] at hcomp
        rcases comp_cons hcomp with ⟨hc, y, r2, hf, h2, rfl⟩ | ⟨hc, h2⟩
        · refine ht _ σ2 Hy gH hσ true hc Hy Gx.rfl _ fun H3 g3 => ite_tt ?_
          refine he _ σ2 Hy gH hσ y hf H3 g3 _ fun p' ws H4 hp' g4 h4p r4 => ?_
          have gD := gy.trans (g3.trans g4)
          have h4 : H4 D = some (.lst vs') := gD _ _ hDc
          have h3 : H3 D = some (.lst vs') := (gy.trans g3) _ _ hDc
          have np : p' ≠ D := fun z => by rw [z, h3] at hp'; cases hp'
          have tx : Tx H4 (mns (upd H4 D (.lst (vs' ++ [.ref p']))) [D]) := fun a xs q => by
            have na : a ≠ D := fun z => by rw [z, h4] at q; cases q
            rw [mns_out (by simpa using na), upd_ne na]; exact q
          have gm : Gx (mns Hc [D]) (mns (upd H4 D (.lst (vs' ++ [.ref p']))) [D]) := fun a o q => by
            have na : a ≠ D := fun z => by rw [z, mns_in (by simp)] at q; cases q
            rw [mns_out (by simpa using na)] at q
            rw [mns_out (by simpa using na), upd_ne na]; exact gD _ _ q
          refine ⟨vs', h4, ?_, hlt, (gc.trans gD).mut hD, vs' ++ [.ref p'], ys ++ [y], r2, upd_same, (ral.mono fun _ _ => Rp.mono gm).app (Al.one ⟨p', ws, rfl, ?_, r4.mono fun _ _ => Im.im tx⟩), ?_, h2, by simp⟩
          · rw [ral.len]; exact Evl.sz_lt (by omega)
          · rw [mns_out (by simpa using np), upd_ne np]; exact h4p
          · rw [List.length_append]; simp only [List.length_cons, List.length_nil]; omega
        · refine ht _ σ2 Hy gH hσ false hc Hy Gx.rfl _ fun H3 g3 => ite_ff ?_
          exact ⟨hlt, (gc.trans gy).trans g3, vs', ys, r', (gy.trans g3) _ _ hDc, ral.mono fun _ _ => Rp.mono (mns_mono (gy.trans g3)), by omega, h2, rfl⟩
      · have hi : i = xs.length := by omega
        subst hi
        rw [List.drop_length] at hcomp
        cases hcomp
        rw [List.append_nil] at *
        exact .inl ⟨stop Hc gc, q (.ref D) Hc (e2.trans gc) ⟨D, vs', rfl, hDc, ral.mono fun _ _ => Rp.mono mns_ex⟩⟩
    · rw [if_neg hz] at hr'
      cases hr'
theorem st_asg2 {m : Option A} {x : A} (h : EvO K te σ G H m) (hm : m = some x) (a : At G H L) (k : forall v G2 H2, Gx G G2 -> Gx H H2 -> At G2 H2 L -> rp K G2 v x -> u X ((σ.set i (some v)).set j (some v)) H2) : tSeq (tAsg2 te (gName i) (gName j)) u X σ H :=
  h x hm G H L Gx.rfl Gx.rfl a _ fun v G2 H2 g e a2 r => k v G2 H2 g e a2 r
end
end Pu

set_option Elab.async false
set_option linter.all false
set_option maxRecDepth 100000
namespace Pu
open Pu.Rp (rp)
open PySem PySem.Spec PyProof.Rows L2
/-! isinstance where the type is known -/
class Tyd (A : Type) [Rp A] where
  nm : String
  ty : forall {K : Fg} {H : Hp} {v : V} {x : A}, rp K H v x -> TyX K H v (.type nm)
instance : Tyd Int := ⟨"int", fun h => by cases h; exact .base (.int _)⟩
instance : Tyd Bool := ⟨"bool", fun h => by cases h; exact .base (.bl _)⟩
instance : Tyd Str := ⟨"str", fun h => by cases h; exact .base (.str _)⟩
instance : Tyd Unit := ⟨"NoneType", fun h => by cases h; exact .base .non⟩
instance {A B : Type} [Rp A] [Rp B] : Tyd (A × B) := ⟨"tuple", fun h => by obtain ⟨a, u, w, rfl, h2, _⟩ := h; exact .base (.tup h2)⟩
instance {A B C : Type} [Rp A] [Rp B] [Rp C] : Tyd (T3 A B C) := ⟨"tuple", fun h => by obtain ⟨a, u, w, z, rfl, h2, _⟩ := h; exact .base (.tup h2)⟩
instance {A : Type} [Rp A] : Tyd (Tl A) := ⟨"tuple", fun h => by obtain ⟨a, vs, rfl, h2, _⟩ := h; exact .base (.tup h2)⟩
instance {A : Type} [Rp A] : Tyd (List A) := ⟨"list", fun h => by obtain ⟨a, vs, rfl, h2, _⟩ := h; exact .base (.lst h2)⟩
def fIs {A : Type} (b : Bool) (_ : A) : Option Bool := some b
def fLen2 {A B : Type} (_ : A × B) : Option Int := some 2
section
variable {K : Fg} {A B C : Type} [Rp A] [Rp B] [Rp C] {σ : L2.St} {H : Hp} {ta : TE} {ma : Option A}
theorem x_isi [Tyd A] {n : String} {b : Bool} (h : PySem.W.kitOne K (.type (Tyd.nm A)) (.type n) = some b) (ha : EvB K ta σ H ma) : EvB K (tCB (rIsi K) (tCons ta (tCons (tC (.ty n)) tNil))) σ H (o1 (fIs b) ma) := fun x hx H1 e Q q => by
  obtain ⟨a, e1, e3⟩ := o1s hx
  cases e3
  exact ha a e1 H1 e _ fun v H2 g2 r2 => ⟨v, .ty n, _, _, b, rfl, .ty n, Tyd.ty r2, h, q _ H2 g2 rfl⟩
theorem x_len2 {ma : Option (A × B)} (ha : EvB K ta σ H ma) : EvB K (tCB (fun xs H Q => ∃ p ys, xs = [.ref p] ∧ (SqL K H p ys ∨ SqT K H p ys) ∧ Q (.int ys.length) H) (tCons ta tNil)) σ H (o1 fLen2 ma) :=
  call1 (fun H v x c r hc Q q => by
    cases hc
    obtain ⟨p, u, w, rfl, h2, h3⟩ := r
    exact ⟨p, _, rfl, .inr (SqT.of h2), q _ H Gx.rfl rfl⟩) ha
end
section
variable {K : Fg} {A : Type} [Rp A] {H : Hp} {L : Led}
theorem Gx.mutA {S G : Hp} {p : Addr} {o : HO} (e : Gx S H) (n : S p = none) (_ : At G (upd H p o) L) : Gx S (upd H p o) := e.mut n
theorem heapB {r : A} {Q : VK} (q : forall w H2, Gx H H2 -> rp K H2 w r -> Q w H2) : exists H0, Gx H0 H ∧ forall w H2, Gx H0 H2 -> rp K H2 w r -> Q w H2 := ⟨H, Gx.rfl, q⟩
theorem heapN {r : List A} {Q : VK} (q : forall p ws H2, H p = none -> Gx H H2 -> H2 p = some (.lst ws) -> Al (rp K H2) ws r -> Q (.ref p) H2) : exists H0, Gx H0 H ∧ forall p ws H2, H0 p = none -> Gx H0 H2 -> H2 p = some (.lst ws) -> Al (rp K H2) ws r -> Q (.ref p) H2 := ⟨H, Gx.rfl, q⟩
end
end Pu

set_option Elab.async false
set_option linter.all false
set_option maxRecDepth 100000
namespace Pu
open Pu.Rp (rp)
open PySem PySem.Spec PyProof.Rows L2
theorem at_obj {G H : Hp} {p : Addr} {o : HO} {L1 L2' : Led} (a : At G H (L1 ++ (p, o) :: L2')) : exists o', o' = o ∧ At G H (L1 ++ (p, o') :: L2') := ⟨o, rfl, a⟩
end Pu

set_option Elab.async false
set_option linter.all false
set_option maxRecDepth 100000
namespace Pu
open Pu.Rp (rp)
open PySem PySem.Spec PyProof.Rows L2
section
variable {K : Fg} {A B C D : Type} [Rp A] [Rp B] [Rp C] [Rp D]
variable {σ : L2.St} {G G' H H' : Hp} {L L1 L2' : Led} {M : List Addr} {te ta tb tc : TE} {tt tu : TT} {X : Ends} {t1 t2 u : TS} {i : Nat}
def whileO {S : Type} (c : S -> Option Bool) (f : S -> Option S) : Nat -> S -> Option S
  | 0, _ => none
  | n + 1, s => (c s).bind fun b => if b = true then (f s).bind fun s' => whileO c f n s' else some s
theorem whileO_M {S : Type} {c : S -> Option Bool} {f : S -> Option S} : forall {n : Nat} {s r : S}, whileO c f n s = some r -> whileM (R := Empty) c (fun s => (f s).map Sum.inl) n s = some (.inl r)
  | 0, s, r, h => by cases h
  | n + 1, s, r, h => by
    unfold whileO at h
    unfold whileM
    cases hc : c s with
    | none => rw [hc] at h; cases h
    | some b =>
      rw [hc] at h
      cases b with
      | false => exact congrArg some (congrArg Sum.inl (Option.some.inj (show some s = some r from h)))
      | true =>
        have h' : ((f s).bind fun s' => whileO c f n s') = some r := h
        cases hf : f s with
        | none => rw [hf] at h'; cases h'
        | some s' =>
          rw [hf] at h'
          exact whileO_M (n := n) h'
theorem st_whileO {S : Type} {c : S -> Option Bool} {f : S -> Option S} {n : Nat} {s0 s1 : S} (hl : whileO c f n s0 = some s1) (In : S -> L2.St -> Hp -> Prop) (h0 : In s0 σ H)
    (hc : forall s σ' H', In s σ' H' -> EvT tt σ' H' (c s))
    (hs : forall s s' σ' H' H'', c s = some true -> f s = some s' -> In s σ' H' -> Gx H' H'' -> t1 { X with nx := In s', ct := In s', bk := u X } σ' H'')
    (hd : forall σ' H' H'', In s1 σ' H' -> Gx H' H'' -> u X σ' H'') : tSeq (tWhile tt t1) u X σ H := by
  have hM := whileO_M hl
  refine ⟨fun m σ H => exists s, In s σ H ∧ whileO c f m s = some s1, ⟨n, s0, h0, hl⟩, ?_⟩
  rintro m σ' Hc ⟨s, hin, hm⟩
  cases m with
  | zero => cases hm
  | succ m =>
    unfold whileO at hm
    cases hb : c s with
    | none => rw [hb] at hm; cases hm
    | some b =>
      rw [hb] at hm
      refine hc s σ' Hc hin b hb Hc Gx.rfl _ fun H3 g3 => ?_
      cases b with
      | false =>
        have e : s = s1 := Option.some.inj (show some s = some s1 from hm)
        subst e
        exact ite_ff (hd σ' Hc H3 hin g3)
      | true =>
        refine ite_tt ?_
        cases hf : f s with
        | none => rw [hf] at hm; cases hm
        | some s' =>
          have hm' : whileO c f m s' = some s1 := by rw [hf] at hm; exact hm
          exact ⟨In s', fun σ3 H4 hN => ⟨m, by omega, s', hN, hm'⟩, hs s s' σ' Hc H3 hb hf hin g3⟩
/-! a list of lists that are changed where they stand -/
def lmE : List Addr -> List (List V) -> Led
  | p :: ps, vs :: vss => (p, HO.lst vs) :: lmE ps vss
  | _, _ => []
def lmL (pp : Addr) (ps : List Addr) (vss : List (List V)) : Led := (pp, HO.lst (ps.map V.ref)) :: lmE ps vss
def Al2 (K : Fg) (G : Hp) : List Addr -> List (List V) -> List (List A) -> Prop
  | [], [], [] => True
  | _ :: ps, vs :: vss, xs :: xss => Al (rp K G) vs xs ∧ Al2 K G ps vss xss
  | _, _, _ => False
theorem Al2.mono (g : Gx G G') : forall {ps : List Addr} {vss : List (List V)} {xss : List (List A)}, Al2 K G ps vss xss -> Al2 K G' ps vss xss
  | [], [], [], _ => trivial
  | _ :: ps, vs :: vss, xs :: xss, h => ⟨h.1.mono fun _ _ => Rp.mono g, Al2.mono (ps := ps) g h.2⟩
  | [], _ :: _, _, h => h.elim
  | [], [], _ :: _, h => h.elim
  | _ :: _, [], _, h => h.elim
  | _ :: _, _ :: _, [], h => h.elim
theorem lm_al (hp : forall e, e ∈ L -> H e.1 = some e.2) (g : Gx G H) : forall {ps : List Addr} {vss : List (List V)} {xss : List (List A)}, (forall e, e ∈ lmE ps vss -> e ∈ L) -> Al2 K G ps vss xss -> Al (rp K H) (ps.map V.ref) xss
  | [], [], [], _, _ => trivial
  | p :: ps, vs :: vss, xs :: xss, hm, h => ⟨⟨p, vs, rfl, hp _ (hm _ (List.Mem.head _)), h.1.mono fun _ _ => Rp.mono g⟩, lm_al (ps := ps) hp g (fun e he => hm e (List.Mem.tail _ he)) h.2⟩
  | [], _ :: _, _, _, h => h.elim
  | [], [], _ :: _, _, h => h.elim
  | _ :: _, [], _, _, h => h.elim
  | _ :: _, _ :: _, [], _, h => h.elim
theorem lm_rp {pp : Addr} {ps : List Addr} {vss : List (List V)} {xss : List (List A)} (a : At G H L) (hp : forall e, e ∈ lmL pp ps vss -> e ∈ L) (r : Al2 K G ps vss xss) : rp K H (.ref pp) xss :=
  ⟨pp, ps.map V.ref, rfl, (a.led _ (hp _ (List.Mem.head _))).1, lm_al (fun e he => (a.led e he).1) a.ex (fun e he => hp e (List.Mem.tail _ he)) r⟩
theorem lm_split : forall {j : Nat} {ps : List Addr} {vss : List (List V)} {xss : List (List A)} {xs : List A}, Al2 K G ps vss xss -> xss[j]? = some xs -> exists p vs L1 L2, ps[j]? = some p ∧ Al (rp K G) vs xs ∧ lmE ps vss = L1 ++ (p, HO.lst vs) :: L2 ∧ forall vs', lmE ps (vss.set j vs') = L1 ++ (p, HO.lst vs') :: L2
  | j, [], [], [], xs, _, h => by simp at h
  | 0, p :: ps, vs :: vss, xs :: xss, _, h, e => by
    cases e
    exact ⟨p, vs, [], lmE ps vss, rfl, h.1, rfl, fun _ => rfl⟩
  | j + 1, p :: ps, vs :: vss, xs :: xss, _, h, e => by
    obtain ⟨q, ws, L1, L2, a, b, c, d⟩ := lm_split (j := j) h.2 e
    refine ⟨q, ws, (p, HO.lst vs) :: L1, L2, a, b, by unfold lmE; rw [c]; rfl, fun vs' => ?_⟩
    rw [List.set_cons_succ]
    unfold lmE
    rw [d]
    rfl
  | _, [], _ :: _, _, _, h, _ => h.elim
  | _, [], [], _ :: _, _, h, _ => h.elim
  | _, _ :: _, [], _, _, h, _ => h.elim
  | _, _ :: _, _ :: _, [], _, h, _ => h.elim
theorem Al2.set {vs' : List V} {xs' : List A} (r : Al (rp K G) vs' xs') : forall {j : Nat} {ps : List Addr} {vss : List (List V)} {xss : List (List A)}, Al2 K G ps vss xss -> Al2 K G ps (vss.set j vs') (xss.set j xs')
  | _, [], [], [], _ => trivial
  | 0, p :: ps, vs :: vss, xs :: xss, h => ⟨r, h.2⟩
  | j + 1, p :: ps, vs :: vss, xs :: xss, h => ⟨h.1, Al2.set (j := j) r h.2⟩
  | _, [], _ :: _, _, h => h.elim
  | _, [], [], _ :: _, h => h.elim
  | _, _ :: _, [], _, h => h.elim
  | _, _ :: _, _ :: _, [], h => h.elim
theorem Al2.len : forall {ps : List Addr} {vss : List (List V)} {xss : List (List A)}, Al2 K G ps vss xss -> ps.length = xss.length
  | [], [], [], _ => rfl
  | _ :: ps, vs :: vss, xs :: xss, h => congrArg Nat.succ (Al2.len h.2)
  | [], _ :: _, _, h => h.elim
  | [], [], _ :: _, h => h.elim
  | _ :: _, [], _, h => h.elim
  | _ :: _, _ :: _, [], h => h.elim
/-- x[i].append(e) -/
def fAppAt (xss : List (List A)) (n : Int) (y : A) : Option (List (List A)) := (ixN xss.length n).bind fun j => (xss[j]?).bind fun xs => if xs.length < 100000 then some (xss.set j (xs ++ [y])) else none
theorem st_lm2 (a : At G H []) (k : forall pp ps vss H2, Gx H H2 -> (forall p, p ∈ ps -> H p = none) -> Al2 K G ps vss ([[], []] : List (List A)) -> At G H2 (lmL pp ps vss) -> u X (σ.set i (some (.ref pp))) H2) :
    tSeq (tAsg (tLst (tCons (tLst tNil) (tCons (tLst tNil) tNil))) (gName i)) u X σ H :=
  ⟨Nat.zero_le _, fun p1 h1 => ⟨Nat.zero_le _, fun p2 h2 => ⟨by show 2 ≤ sizeLine; exact Evl.sz_of (by decide), fun pp h3 => by
    have a1 := a.add h1 (o := HO.lst []) trivial
    have a2 := a1.add h2 (o := HO.lst []) trivial
    have a3 := a2.add h3 (o := HO.lst [V.ref p1, V.ref p2]) trivial
    have e1 : Gx H (upd H p1 (HO.lst [])) := Gx.new h1
    have e2 := Gx.new (o := HO.lst []) h2
    have e3 := Gx.new (o := HO.lst [V.ref p1, V.ref p2]) h3
    refine k pp [p1, p2] [[], []] _ ((e1.trans e2).trans e3) (fun p hp => ?_) ⟨trivial, trivial, trivial⟩ ⟨a3.ex, ?_, fun q hq => a3.led q ?_⟩
    · rcases List.mem_cons.mp hp with rfl | hp
      · exact h1
      · rw [List.mem_singleton.mp hp]
        exact e1.back h2
    · have := a3.nd
      simp only [lmL, lmE, List.map_cons, List.map_nil, List.nodup_cons, List.mem_cons, List.not_mem_nil, or_false] at this ⊢
      refine ⟨fun z => this.1 (z.elim .inr .inl), fun z => this.2.1 z.symm, ?_⟩
      exact ⟨fun z => z, List.nodup_nil⟩
    · simp only [lmL, lmE, List.mem_cons, List.not_mem_nil, or_false] at hq ⊢
      rcases hq with h | h | h
      · exact .inl h
      · exact .inr (.inr h)
      · exact .inr (.inl h)⟩⟩⟩
theorem lm_m : forall {ps : List Addr} {vss : List (List V)} {xss : List (List A)}, Al2 K G ps vss xss -> (lmE ps vss).map (·.1) = ps
  | [], [], [], _ => rfl
  | _ :: ps, vs :: vss, xs :: xss, h => congrArg _ (lm_m h.2)
  | [], _ :: _, _, h => h.elim
  | [], [], _ :: _, h => h.elim
  | _ :: _, [], _, h => h.elim
  | _ :: _, _ :: _, [], h => h.elim
theorem lm_M {pp : Addr} {ps : List Addr} {vss : List (List V)} {xss : List (List A)} {M1 : List Addr} (r : Al2 K G ps vss xss) (h : forall p, p ∈ M1 -> p ∈ L1.map (·.1)) : forall p, p ∈ M1 ++ ps -> p ∈ (L1 ++ lmL pp ps vss).map (·.1) := fun p hp => by
  rw [List.map_append]
  rcases List.mem_append.mp hp with hp | hp
  · exact List.mem_append_left _ (h p hp)
  · refine List.mem_append_right _ (List.mem_cons_of_mem _ ?_)
    rw [lm_m r]
    exact hp
theorem st_appAt {pp : Addr} {ps : List Addr} {vss : List (List V)} {xss zss : List (List A)} {iv : Nat} {m : Option A} {x : A} {mi : Option Int} {n : Int} (hs : σ[iv]? = some (some (.ref pp))) (hi : EvB K tb σ H mi) (hn : mi = some n)
    (h : EvO K te σ G H m) (hm : m = some x) (a : At G H (L1 ++ lmL pp ps vss)) (r : Al2 K G ps vss xss) (hz : fAppAt xss n x = some zss)
    (k : forall G2 H2 H3 p o vss', Gx G G2 -> Gx H H2 -> p ∈ ps -> H3 = upd H2 p o -> At G2 H2 (L1 ++ lmL pp ps vss) -> At G2 H3 (L1 ++ lmL pp ps vss') -> Al2 K G2 ps vss' zss -> u X σ H3) :
    tSeq (tDrop (tBM K "list" rAppend (tOp (rIxL K) (tVar iv) tb) (tCons te tNil))) u X σ H := by
  unfold fAppAt at hz
  obtain ⟨j, hj, hz⟩ := bnd hz
  obtain ⟨xs, hx, hz⟩ := bnd hz
  by_cases hl : xs.length < 100000
  · rw [if_pos hl] at hz
    cases hz
    obtain ⟨p, vs, M1, M2, hp, ra, e1, e2⟩ := lm_split r hx
    have hpp := (a.led (pp, .lst (ps.map V.ref)) (List.mem_append_right _ (List.Mem.head _))).1
    have hmem : (p, HO.lst vs) ∈ L1 ++ lmL pp ps vss := List.mem_append_right _ (List.mem_cons_of_mem _ (by rw [e1]; simp))
    refine ⟨_, hs, hi n hn H Gx.rfl _ fun w H1 g1 rw' => ⟨pp, ps.map V.ref, n, .ref p, rfl, rw', SqL.of (g1 _ _ hpp), ?_, ?_⟩⟩
    · unfold atI
      rw [List.length_map, r.len, hj]
      show (ps.map V.ref)[j]? = _
      rw [List.getElem?_map, hp]
      rfl
    · have a1 := a.grow g1
      have hq := (a1.led _ hmem).1
      refine ⟨Or.inl ⟨rfl, vs, SqL.of hq⟩, h x hm G H1 _ Gx.rfl g1 a1 _ fun v G2 H2 g2 g3 a2 rv => ⟨p, vs, v, rfl, rfl, g3 _ _ hq, Evl.sz_lt (by rw [ra.len]; exact hl), ?_⟩⟩
      have a3 : At G2 H2 ((L1 ++ (pp, HO.lst (ps.map V.ref)) :: M1) ++ (p, HO.lst vs) :: M2) := by
        have := a2
        unfold lmL at this
        rw [e1] at this
        simpa using this
      have a4 := a3.set (o' := HO.lst (vs ++ [v])) trivial
      refine k G2 H2 _ p _ (vss.set j (vs ++ [v])) g2 (g1.trans g3) (List.mem_of_getElem? hp) rfl a2 ?_ (Al2.set ((ra.mono fun _ _ => Rp.mono g2).app (Al.one rv)) (r.mono g2))
      unfold lmL
      rw [e2]
      simpa using a4
  · rw [if_neg hl] at hz
    cases hz
theorem lmE_nil {e : Addr × HO} : forall {ps : List Addr}, e ∈ lmE ps (ps.map fun _ => []) -> e.1 ∈ ps ∧ e.2 = HO.lst []
  | [], h => nomatch h
  | p :: ps, h => by
    rcases List.mem_cons.mp h with rfl | h
    · exact ⟨List.mem_cons_self, rfl⟩
    · have := lmE_nil (ps := ps) h
      exact ⟨List.mem_cons_of_mem _ this.1, this.2⟩
theorem lmE_map : forall {ps : List Addr}, (lmE ps (ps.map fun _ => [])).map (·.1) = ps
  | [] => rfl
  | p :: ps => congrArg _ (lmE_map (ps := ps))
theorem al2_nil : forall {ps : List Addr}, Al2 K G ps (ps.map fun _ => []) (ps.map fun _ => ([] : List A))
  | [] => trivial
  | _ :: ps => ⟨trivial, al2_nil (ps := ps)⟩
/-- x = [[] for k in ..] -/
theorem st_lmc {I : Type} [Rp I] {wi : TI} {g : TG} {b : Bd I} {vs : List Nat} {mx : Option (List I)} {xs : List I} (hi : EvI K wi σ [] H mx) (hx : mx = some xs) (hz : xs.length ≤ 100000) (hg : TgOk K g b) (hb : BdIn b vs)
    (ht : forall x σ2 H', Gx H H' -> b x (wipe σ vs) H' σ2 -> EvT tt σ2 H' (some true)) (a : At G H [])
    (k : forall pp ps vss H2, Gx H H2 -> (forall p, p ∈ ps -> H p = none) -> Al2 K G ps vss (xs.map fun _ => ([] : List A)) -> At G H2 (lmL pp ps vss) -> u X (σ.set i (some (.ref pp))) H2) :
    tSeq (tAsg (tLc wi g tt (tLst tNil) vs) (gName i)) u X σ H := by
  refine hi xs hx H Gx.rfl _ fun J H2 e2 wk => ?_
  rw [mns_nil] at wk
  intro D hD
  obtain ⟨go, stop, yld⟩ := wk
  refine ⟨fun i m Hc => m = xs.length - i ∧ i ≤ xs.length ∧ Gx H2 Hc ∧ exists ps : List Addr, Hc D = some (.lst (ps.map V.ref)) ∧ ps.length = i ∧ (D :: ps).Nodup ∧ forall p, p ∈ ps -> H2 p = none ∧ Hc p = some (.lst []),
    ⟨xs.length, by simp, Nat.zero_le _, Gx.new hD, [], upd_same, rfl, by simp, fun p hp => nomatch hp⟩, ?_⟩
  rintro j m Hc ⟨rfl, hle, gc, ps, hDc, hlen, nd, hps⟩
  by_cases hlt : j < xs.length
  · refine .inr ⟨go j Hc hlt gc, fun Hn => j + 1 ≤ xs.length ∧ Gx H2 Hn ∧ exists ps : List Addr, Hn D = some (.lst (ps.map V.ref)) ∧ ps.length = j + 1 ∧ (D :: ps).Nodup ∧ forall p, p ∈ ps -> H2 p = none ∧ Hn p = some (.lst []),
      fun Hn hn => ⟨xs.length - (j + 1), by omega, rfl, hn.1, hn.2⟩, fun v Hy hy => ?_⟩
    have hx' := List.getElem?_eq_getElem hlt
    obtain ⟨gy, ry⟩ := yld j Hc v Hy _ gc hx' hy
    have gH : Gx H Hy := e2.trans (gc.trans gy)
    refine hg _ v (wipe σ vs) Hy _ ry fun σ2 hσ => ⟨(hb _ _ _ _ hσ).trans (wipe_wipe σ vs), ?_⟩
    refine ht _ σ2 Hy gH hσ true rfl Hy Gx.rfl _ fun H3 g3 => ite_tt ?_
    refine ⟨Nat.zero_le _, fun p' hp' => ?_⟩
    have gD := gy.trans g3
    have h3 : H3 D = some (.lst (ps.map V.ref)) := gD _ _ hDc
    have np : p' ≠ D := fun z => by rw [z, h3] at hp'; cases hp'
    have nps : p' ∉ ps := fun z => by rw [gD _ _ (hps p' z).2] at hp'; cases hp'
    have h4 : upd H3 p' (HO.lst []) D = some (.lst (ps.map V.ref)) := by rw [upd_ne (fun z => np z.symm)]; exact h3
    refine ⟨ps.map V.ref, h4, by rw [List.length_map]; exact Evl.sz_lt (by omega), hlt, ?_, ps ++ [p'], ?_, ?_, ?_, fun p hp => ?_⟩
    · exact ((gc.trans gD).trans (Gx.new hp')).mut hD
    · rw [upd_same, List.map_append]; rfl
    · rw [List.length_append, hlen]; rfl
    · obtain ⟨n1, n2⟩ := List.nodup_cons.mp nd
      refine List.nodup_cons.mpr ⟨fun z => ?_, List.nodup_append.mpr ⟨n2, by simp, fun q hq r hr => ?_⟩⟩
      · rcases List.mem_append.mp z with z | z
        · exact n1 z
        · exact np (List.mem_singleton.mp z).symm
      · rw [List.mem_singleton.mp hr]
        intro z
        exact nps (z ▸ hq)
    · have nD : p ≠ D := by
        rcases List.mem_append.mp hp with z | z
        · intro y
          exact (List.nodup_cons.mp nd).1 (y ▸ z)
        · rw [List.mem_singleton.mp z]; exact np
      rcases List.mem_append.mp hp with z | z
      · have q : p ≠ p' := fun y => nps (y ▸ z)
        exact ⟨(hps p z).1, by rw [upd_ne nD, upd_ne q]; exact gD _ _ (hps p z).2⟩
      · rw [List.mem_singleton.mp z] at nD ⊢
        exact ⟨(gc.trans gD).back hp', by rw [upd_ne nD, upd_same]⟩
  · have hi : j = xs.length := by omega
    subst hi
    refine .inl ⟨stop Hc gc, ?_⟩
    have e0 := e2.trans gc
    have hm : (xs.map fun _ => ([] : List A)) = ps.map fun _ => [] := by
      apply List.ext_getElem
      · simp [hlen]
      · intro n h1 h2; simp
    refine k D ps (ps.map fun _ => []) Hc e0 (fun p hp => e2.back (hps p hp).1) (by rw [hm]; exact al2_nil) ⟨a.ex.trans e0, ?_, fun e he => ?_⟩
    · show (D :: (lmE ps _).map (·.1)).Nodup
      rw [lmE_map]; exact nd
    · rcases List.mem_cons.mp he with rfl | he
      · exact ⟨hDc, a.ex.back (e2.back hD), trivial⟩
      · obtain ⟨x1, x2⟩ := lmE_nil he
        obtain ⟨ea, eo⟩ := e
        simp only at x1 x2
        subst x2
        exact ⟨(hps _ x1).2, a.ex.back (e2.back (hps _ x1).1), trivial⟩
def oLim {I : Type} (m : Option (List I)) : Option (List I) := m.bind (lim 100000)
theorem oLims {I : Type} {m : Option (List I)} {xs : List I} (h : oLim m = some xs) : m = some xs ∧ xs.length ≤ 100000 := by
  unfold oLim at h
  obtain ⟨ys, e, h⟩ := bnd h
  unfold lim at h
  split at h
  · cases h; exact ⟨e, by assumption⟩
  · cases h
end
section
variable {X : Cx} {K : Fg}
theorem ixT_K (h : X.K = K) : IxR X (rIxT K) := h ▸ ix_tup
theorem ixL_K (h : X.K = K) : IxR X (rIxL K) := h ▸ ix_list
theorem slL_K (h : X.K = K) : SlR X (rSlL K) := h ▸ sl_list
theorem slA_K (h : X.K = K) : SlR X (rSlA K) := h ▸ sl_tupA
theorem opEq_K (h : X.K = K) (hu : X.A.units + 64 < cLine) : OpR X (compareOp .Eq) (rEqD K) := h ▸ op_eqD hu
theorem opNe_K (h : X.K = K) (hu : X.A.units + 64 < cLine) : OpR X (compareOp .NotEq) (rNeD K) := h ▸ op_neD hu
theorem len_K (h : X.K = K) : CallR X (.builtin "len") (fun xs H Q => ∃ p ys, xs = [V.ref p] ∧ (SqL K H p ys ∨ SqT K H p ys) ∧ Q (V.int ys.length) H) := h ▸ call_len_seq
theorem isi_K (h : X.K = K) : CallR X (.builtin "isinstance") (rIsi K) := h ▸ call_isi
theorem lof_K (h : X.K = K) : CallR X (.type "list") (fun xs H Q => ∃ p ys, xs = [V.ref p] ∧ (SqL K H p ys ∨ SqT K H p ys) ∧ ∀ l, H l = none → Q (V.ref l) (upd H l (.lst ys))) := h ▸ call_list_of
theorem tof_K (h : X.K = K) : CallR X (.type "tuple") (fun xs H Q => ∃ p ys, xs = [V.ref p] ∧ ((SqL K H p ys ∧ ∀ l, H l = none → Q (V.ref l) (upd H l (.tup ys))) ∨ (SqT K H p ys ∧ Q (V.ref p) H))) := h ▸ call_tuple_of
end
end Pu

set_option Elab.async false
set_option linter.all false
set_option maxRecDepth 100000
namespace Pu
open Pu.Rp (rp)
open PySem PySem.Spec PyProof.Rows L2
/-! a number or None -/
instance {A : Type} [Rp A] : Rp (Option A) where
  rp K H v x := match x with
    | none => v = .non
    | some a => rp K H v a
  mono {K H H' v x} e h := by
    cases x with
    | none => exact h
    | some a => exact Rp.mono e h
instance {A : Type} [Rp A] [Im A] : Im (Option A) := ⟨fun {K H H' v x} e h => by
  cases x with
  | none => exact h
  | some a => exact Im.im (A := A) e h⟩
instance : Eqd (Option Int) where
  enc x := match x with
    | none => .none
    | some i => .int i
  dp {K H v x} h := by
    cases x with
    | none => cases (show v = V.non from h); exact .non
    | some i => cases (show v = V.int i from h); exact .int _
  lay x := by cases x <;> simp [PyData.canLay0]
  dep := 0
  deep x := by cases x <;> simp [PyData.depth]
  eqv x y := by
    cases x with
    | none =>
      cases y with
      | none => simp [PyData.eqv]
      | some j => simp [PyData.eqv]
    | some i =>
      cases y with
      | none => simp [PyData.eqv]
      | some j =>
        rw [PyData.eqv]
        by_cases h : i = j <;> simp [h]
section
variable {K : Fg} {A B C D : Type} [Rp A] [Rp B] [Rp C] [Rp D]
variable {σ : L2.St} {G G' H H' : Hp} {L L1 L2' : Led} {M : List Addr} {te ta tb tc : TE} {tt tu : TT} {X : Ends} {t1 t2 u : TS} {i : Nat}
theorem x_some {m : Option A} (h : EvB K te σ H m) : EvB (A := Option A) K te σ H (m.map some) := fun x hx H1 e Q q => by
  obtain ⟨a, ha, rfl⟩ := Option.map_eq_some_iff.mp hx
  exact h a ha H1 e Q q
theorem x_none : EvB (A := Option A) K (tC .non) σ H (some none) := fun x hx H1 e Q q => by
  cases hx
  exact q _ H1 Gx.rfl rfl
/-! min(xs, default=..) of a list of ints -/
def rMinD (K : Fg) : List V -> List V -> Hp -> VK -> Prop := fun vs zs H Q => exists (a : Addr) (ns : List Int) (d : V), vs = [V.ref a] ∧ zs = [d] ∧ SqL K H a (ns.map V.int) ∧ Q (match ns with | [] => d | n :: r => .int (r.foldl min n)) H
theorem alikeAll_int (ns : List Int) : PySem.W.AlikeAll (ns.map PyData.int) :=
  ⟨fun x hx y hy => by
    obtain ⟨a, _, rfl⟩ := List.mem_map.mp hx
    obtain ⟨b, _, rfl⟩ := List.mem_map.mp hy
    rfl, fun x hx => by
    obtain ⟨a, _, rfl⟩ := List.mem_map.mp hx
    intro h; cases h⟩
theorem depth_ints : forall ns : List Int, PyData.depthAll (ns.map PyData.int) = 0
  | [] => by simp [PyData.depthAll]
  | n :: r => by
    rw [List.map_cons, PyData.depthAll, depth_ints r]
    simp [PyData.depth]
end
theorem cr_minD {X : Cx} {K : Fg} (hk : X.K = K) (hc : X.calm = true) (hu : X.A.units + 64 < cLine) : CallRK X (.builtin "min") [Str.ofString "default"] (rMinD K) := by
  subst hk
  intro pins s σ H vs zs us ws Q I r rz h
  obtain ⟨a, ns, d, rfl, rfl, hs, q⟩ := h
  obtain ⟨its, rv, hl, _⟩ := I.list hs
  obtain rfl := Vals.ref1 r
  obtain ⟨w1, rfl, e1⟩ := vals1 rz
  have ia := rv.ints
  refine PySem.W.min_list_default (I.ok.hd hc) hl.isList (IntsAre.reads _ ia) (alikeAll_int ns) (by rw [depth_ints]; omega) (fun h0 h' tk hk => ?_) (fun y ys i v h' tk bs he hv hr hk => ?_)
  · cases ns with
    | nil => exact ⟨d, H, I.kept hk, e1, q⟩
    | cons n r => cases h0
  · cases ns with
    | nil => cases he
    | cons n r =>
      rw [List.map_cons] at he
      injection he with h1 h2
      subst h1 h2
      rw [PySem.W.minD_ints] at hr
      obtain ⟨t, rfl, _⟩ := reads_int_inv hr
      exact ⟨.int _, H, I.kept hk, ⟨_, rfl⟩, q⟩
section
variable {K : Fg} {A B C D : Type} [Rp A] [Rp B] [Rp C] [Rp D]
variable {σ : L2.St} {G G' H H' : Hp} {L L1 L2' : Led} {M : List Addr} {te ta tb tc : TE} {tt tu : TT} {X : Ends} {t1 t2 u : TS} {i : Nat}
def fMinN (x : List Int) : Option (Option Int) := some (match x with | [] => none | n :: r => some (r.foldl min n))
theorem x_minN {ma : Option (List Int)} (ha : EvB K ta σ H ma) : EvB K (tCKw (rMinD K) (tCons ta tNil) (tCons (tC .non) tNil)) σ H (o1 fMinN ma) := fun x hx H1 e Q q => by
  obtain ⟨ns, e1, e2⟩ := o1s hx
  unfold fMinN at e2
  cases e2
  refine ha ns e1 H1 e _ fun v H2 g r => ?_
  obtain ⟨p, vs, rfl, h2, h3⟩ := r
  rw [al_int h3] at h2
  refine ⟨p, ns, .non, rfl, rfl, SqL.of h2, ?_⟩
  cases ns with
  | nil => exact q _ H2 g rfl
  | cons n r => exact q _ H2 g rfl
/-! new lists of new lists -/
def Nl (K : Fg) (H1 H2 : Hp) (p : Addr) : List V -> List (List A) -> Prop := Al fun v xs => exists (p' : Addr) (ws : List V), v = .ref p' ∧ H1 p' = none ∧ p' ≠ p ∧ H2 p' = some (.lst ws) ∧ Al (rp K H2) ws xs
def EvQ (K : Fg) (te : TE) (σ : L2.St) (H : Hp) (m : Option (List (List A))) : Prop :=
  forall xs, m = some xs -> forall H1, Gx H H1 -> forall Q : VK, (forall p vs H2, H1 p = none -> Gx H1 H2 -> H2 p = some (.lst vs) -> Nl K H1 H2 p vs xs -> Q (.ref p) H2) -> te σ H1 Q
theorem EvQ.b {m : Option (List (List A))} (h : EvQ K te σ H m) : EvB K te σ H m := fun x hx H1 e Q q => h x hx H1 e Q fun p vs H2 hn g h2 r => q (.ref p) H2 g ⟨p, vs, rfl, h2, r.mono fun v xs z => by
  obtain ⟨p', ws, a, _, _, b, c⟩ := z
  exact ⟨p', ws, a, b, c⟩⟩
theorem st_newQ [Im A] {m : Option (List (List A))} {x : List (List A)} (h : EvQ K te σ H m) (hm : m = some x) (a : At G H L) (k : forall p vs G2 H2, H p = none -> Gx G G2 -> Gx H H2 -> At G2 H2 ((p, .lst vs) :: L) -> Al (rp K G2) vs x -> u X (σ.set i (some (.ref p))) H2) : tSeq (tAsg te (gName i)) u X σ H :=
  h x hm H Gx.rfl _ fun p vs H2 hp g h2 r => by
    have a2 : At G H2 ((p, .lst vs) :: L) := by
      refine ⟨a.ex.trans g, List.nodup_cons.mpr ⟨a.fresh hp, a.nd⟩, fun q hq => ?_⟩
      rcases List.mem_cons.mp hq with rfl | hq
      · exact ⟨h2, a.ex.back hp, trivial⟩
      · exact (a.grow g).led q hq
    refine k p vs (hid H2 ((p, .lst vs) :: L)) H2 hp a2.gh g a2.hid (r.mono fun v xs z => ?_)
    obtain ⟨p', ws, e1, e2, e3, e4, e5⟩ := z
    refine ⟨p', ws, e1, ?_, e5.mono fun _ _ => Im.im a2.tx⟩
    rw [hid_out]
    · exact e4
    · intro z
      rcases List.mem_cons.mp z with z | z
      · exact e3 z
      · exact a.fresh e2 z
theorem x_lcQ {I : Type} [Rp I] [Im A] {wi : TI} {g : TG} {b : Bd I} {vs : List Nat} {mx : Option (List I)} {c : I -> Option Bool} {f : I -> Option (List A)} {tt : TT} (hi : EvI K wi σ [] H mx) (hg : TgOk K g b) (hb : BdIn b vs)
    (ht : forall x σ2 H', Gx H H' -> b x (wipe σ vs) H' σ2 -> EvT tt σ2 H' (c x)) (he : forall x σ2 H', Gx H H' -> b x (wipe σ vs) H' σ2 -> EvN K te σ2 H' (f x)) : EvQ K (tLc wi g tt te vs) σ H (oComp c f mx) := fun r hr H1 e1 Q q => by
  cases mx with
  | none => cases hr
  | some xs =>
    have hr' : (lim 100000 xs).bind (comp c f) = some r := hr
    unfold lim at hr'
    by_cases hz : xs.length ≤ 100000
    · rw [if_pos hz] at hr'
      have hr2 : comp c f xs = some r := hr'
      refine hi xs rfl H1 e1 _ fun J H2 e2 wk => ?_
      rw [mns_nil] at wk
      intro D hD
      obtain ⟨go, stop, yld⟩ := wk
      refine ⟨fun i m Hc => m = xs.length - i ∧ i ≤ xs.length ∧ Gx H2 Hc ∧ exists vs' ys r', Hc D = some (.lst vs') ∧ Nl K H1 Hc D vs' ys ∧ ys.length ≤ i ∧ comp c f (xs.drop i) = some r' ∧ r = ys ++ r',
        ⟨xs.length, by simp, Nat.zero_le _, Gx.new hD, [], [], r, upd_same, trivial, Nat.le_refl _, hr2, rfl⟩, ?_⟩
      have mv : forall (Ha Hb : Hp) (vs' : List V) (ys : List (List A)), Gx Ha Hb -> Nl K H1 Ha D vs' ys -> Nl K H1 Hb D vs' ys := fun Ha Hb vs' ys ga n => n.mono fun v xs z => by
        obtain ⟨p', ws, a1, a2, a3, a4, a5⟩ := z
        exact ⟨p', ws, a1, a2, a3, ga _ _ a4, a5.mono fun _ _ => Rp.mono ga⟩
      rintro i m Hc ⟨rfl, hle, gc, vs', ys, r', hDc, ral, hlen, hcomp, rfl⟩
      by_cases hlt : i < xs.length
      · refine .inr ⟨go i Hc hlt gc, fun Hn => i + 1 ≤ xs.length ∧ Gx H2 Hn ∧ exists vs' ys' r'', Hn D = some (.lst vs') ∧ Nl K H1 Hn D vs' ys' ∧ ys'.length ≤ i + 1 ∧ comp c f (xs.drop (i + 1)) = some r'' ∧ ys ++ r' = ys' ++ r'',
          fun Hn hn => ⟨xs.length - (i + 1), by omega, rfl, hn.1, hn.2⟩, fun v Hy hy => ?_⟩
        have hx := List.getElem?_eq_getElem hlt
        obtain ⟨gy, ry⟩ := yld i Hc v Hy _ gc hx hy
        have gH : Gx H Hy := (e1.trans e2).trans (gc.trans gy)
        refine hg _ v (wipe σ vs) Hy _ ry fun σ2 hσ => ⟨(hb _ _ _ _ hσ).trans (wipe_wipe σ vs), ?_⟩
        rw [List.drop_eq_getElem_cons hlt] at hcomp
        rcases comp_cons hcomp with ⟨hc, y, r2, hf, h2, rfl⟩ | ⟨hc, h2⟩
        · refine ht _ σ2 Hy gH hσ true hc Hy Gx.rfl _ fun H3 g3 => ite_tt ?_
          refine he _ σ2 Hy gH hσ y hf H3 g3 _ fun p' ws H4 hp' g4 h4p r4 => ?_
          have gD := gy.trans (g3.trans g4)
          have h4 : H4 D = some (.lst vs') := gD _ _ hDc
          have h3 : H3 D = some (.lst vs') := (gy.trans g3) _ _ hDc
          have np : p' ≠ D := fun z => by rw [z, h3] at hp'; cases hp'
          have tx : Tx H4 (upd H4 D (.lst (vs' ++ [.ref p']))) := fun a xs q => by
            have na : a ≠ D := fun z => by rw [z, h4] at q; cases q
            rw [upd_ne na]; exact q
          have r1 := mv Hc H4 vs' ys gD ral
          have r5 : Nl K H1 (upd H4 D (.lst (vs' ++ [.ref p']))) D vs' ys := r1.mono fun v xs z => by
            obtain ⟨p2, w2, a1, a2, a3, a4, a5⟩ := z
            exact ⟨p2, w2, a1, a2, a3, by rw [upd_ne a3]; exact a4, a5.mono fun _ _ => Im.im tx⟩
          refine ⟨vs', h4, ?_, hlt, (gc.trans gD).mut hD, vs' ++ [.ref p'], ys ++ [y], r2, upd_same, Al.app r5 (Al.one ⟨p', ws, rfl, (e2.trans (gc.trans (gy.trans g3))).back hp', np, by rw [upd_ne np]; exact h4p, r4.mono fun _ _ => Im.im tx⟩), ?_, h2, by simp⟩
          · rw [ral.len]; exact Evl.sz_lt (by omega)
          · rw [List.length_append]; simp only [List.length_cons, List.length_nil]; omega
        · refine ht _ σ2 Hy gH hσ false hc Hy Gx.rfl _ fun H3 g3 => ite_ff ?_
          exact ⟨hlt, (gc.trans gy).trans g3, vs', ys, r', (gy.trans g3) _ _ hDc, mv Hc H3 vs' ys (gy.trans g3) ral, by omega, h2, rfl⟩
      · have hi : i = xs.length := by omega
        subst hi
        rw [List.drop_length] at hcomp
        cases hcomp
        rw [List.append_nil] at *
        exact .inl ⟨stop Hc gc, q D vs' Hc (e2.back hD) (e2.trans gc) hDc ral⟩
    · rw [if_neg hz] at hr'
      cases hr'
def o5 {A B C D E R : Type} (f : A -> B -> C -> D -> E -> Option R) (ma : Option A) (mb : Option B) (mc : Option C) (md : Option D) (me : Option E) : Option R := ma.bind fun a => mb.bind fun b => mc.bind fun c => md.bind fun d => me.bind fun e => f a b c d e
theorem em5 {T5 R : Type} [Rp T5] [Rp R] {td tf : TE} {f : A -> B -> C -> D -> T5 -> Option R} {ma : Option A} {mb : Option B} {mc : Option C} {md : Option D} {me : Option T5} (ha : EvB K ta σ H ma) (hb : EvB K tb σ H mb) (hc : EvB K tc σ H mc) (hd : EvB K td σ H md) (he : EvB K tf σ H me) : EvM (tCons ta (tCons tb (tCons tc (tCons td (tCons tf tNil))))) σ H (A5 K f) (o5 f ma mb mc md me) := fun r hr H1 e Q q => by
  obtain ⟨x, e1, hr⟩ := bnd hr
  obtain ⟨y, e2, hr⟩ := bnd hr
  obtain ⟨z, e3, hr⟩ := bnd hr
  obtain ⟨w0, e4, hr⟩ := bnd hr
  obtain ⟨u0, e5, hr⟩ := bnd hr
  exact ha x e1 H1 e _ fun v H2 g2 r2 => hb y e2 H2 (e.trans g2) _ fun w H3 g3 r3 => hc z e3 H3 ((e.trans g2).trans g3) _ fun w3 H4 g4 r4 => hd w0 e4 H4 (((e.trans g2).trans g3).trans g4) _ fun w4 H5 g5 r5 => he u0 e5 H5 ((((e.trans g2).trans g3).trans g4).trans g5) _ fun w5 H6 g6 r6 => q _ H6 ((((g2.trans g3).trans g4).trans g5).trans g6) ⟨v, w, w3, w4, w5, x, y, z, w0, u0, rfl, Rp.mono (((g3.trans g4).trans g5).trans g6) r2, Rp.mono ((g4.trans g5).trans g6) r3, Rp.mono (g5.trans g6) r4, Rp.mono g6 r5, r6, hr⟩
theorem sr_o {m : Option A} {x : A} (h : EvO K te σ G H m) (hm : m = some x) (a : At G H L) (k : forall v G2 H2, Gx G G2 -> Gx H H2 -> At G2 H2 L -> rp K G2 v x -> X.rt v H2) : tSeq (tRet te) u X σ H := h x hm G H L Gx.rfl Gx.rfl a _ k
/-- a def of five, the third and the fourth lists that it changes -/
def PSd {A1 A2 C D A5 R : Type} [Rp A1] [Rp A2] [Rp C] [Rp D] [Rp A5] [Rp R] (K : Fg) (m : A1 -> A2 -> List C -> List D -> A5 -> Option (R × List C × List D)) : Sp := fun vs H Q _ =>
  exists (LL : Led) (G : Hp) (v1 v2 v5 : V) (p3 p4 : Addr) (ws3 ws4 : List V) (x1 : A1) (x2 : A2) (x3 : List C) (x4 : List D) (x5 : A5) (r : R × List C × List D), vs = [v1, v2, .ref p3, .ref p4, v5] ∧ At G H ((p4, .lst ws4) :: (p3, .lst ws3) :: LL) ∧ rp K G v1 x1 ∧ rp K G v2 x2 ∧ Al (rp K G) ws3 x3 ∧ Al (rp K G) ws4 x4 ∧ rp K G v5 x5 ∧ m x1 x2 x3 x4 x5 = some r ∧
    forall w G2 H2 us3 us4, Gx G G2 -> Gx (mns H [p3, p4]) H2 -> At G2 H2 ((p4, .lst us4) :: (p3, .lst us3) :: LL) -> rp K G2 w r.1 -> Al (rp K G2) us3 r.2.1 -> Al (rp K G2) us4 r.2.2 -> Q w H2
theorem st_callD {A1 A2 C D A5 R : Type} [Rp A1] [Rp A2] [Rp C] [Rp D] [Rp A5] [Rp R] {m : A1 -> A2 -> List C -> List D -> A5 -> Option (R × List C × List D)} {t1 t2 t5 : TE} {m1 : Option A1} {m2 : Option A2} {m5 : Option A5} {x1 : A1} {x2 : A2} {x3 : List C} {x4 : List D} {x5 : A5} {i3 i4 : Nat} {p3 p4 : Addr} {ws3 ws4 : List V} {r : R × List C × List D} {E : XK}
    (h1 : EvO K t1 σ G H m1) (e1 : m1 = some x1) (h2 : EvO K t2 σ G H m2) (e2 : m2 = some x2) (s3 : σ[i3]? = some (some (.ref p3))) (s4 : σ[i4]? = some (some (.ref p4))) (h5 : EvO K t5 σ G H m5) (e5 : m5 = some x5)
    (a : At G H ((p4, .lst ws4) :: (p3, .lst ws3) :: L)) (al3 : Al (rp K G) ws3 x3) (al4 : Al (rp K G) ws4 x4) (hm : m x1 x2 x3 x4 x5 = some r)
    (k : forall w G2 H2 us3 us4, Gx G G2 -> Gx (mns H [p3, p4]) H2 -> At G2 H2 ((p4, .lst us4) :: (p3, .lst us3) :: L) -> rp K G2 w r.1 -> Al (rp K G2) us3 r.2.1 -> Al (rp K G2) us4 r.2.2 -> u X (σ.set i (some w)) H2) :
    tSeq (tAsg (tCall (PSd K m) [] E (tCons t1 (tCons t2 (tCons (tVar i3) (tCons (tVar i4) (tCons t5 tNil)))))) (gName i)) u X σ H := by
  refine h1 x1 e1 G H _ Gx.rfl Gx.rfl a _ fun v1 G1 H1 g1 f1 a1 r1 => ?_
  refine h2 x2 e2 G1 H1 _ g1 f1 a1 _ fun v2 G2 H2 g2 f2 a2 r2 => ?_
  refine ⟨_, s3, _, s4, ?_⟩
  refine h5 x5 e5 G2 H2 _ (g1.trans g2) (f1.trans f2) a2 _ fun v5 G3 H3 g3 f3 a3 r5 => ?_
  have gg := (g1.trans g2).trans g3
  exact ⟨L, G3, v1, v2, v5, p3, p4, ws3, ws4, x1, x2, x3, x4, x5, r, rfl, a3, Rp.mono (g2.trans g3) r1, Rp.mono g3 r2, al3.mono fun _ _ => Rp.mono gg, al4.mono fun _ _ => Rp.mono gg, r5, hm,
    fun w G4 H4 us3 us4 g4 f4 a4 rw' b3 b4 => k w G4 H4 us3 us4 (gg.trans g4) ((mns_mono ((f1.trans f2).trans f3)).trans f4) a4 rw' b3 b4⟩
end
section
variable {X : Cx} {K : Fg} {tg e : Expr} {ta : TE}
theorem piL_K (h : X.K = K) (he : PE X e ta) : PI X tg e (iList K ta) := h ▸ pi_list he
theorem piT_K (h : X.K = K) (he : PE X e ta) : PI X tg e (iTup K ta) := h ▸ pi_tup he
end
end Pu

set_option Elab.async false
set_option linter.all false
set_option maxRecDepth 100000
namespace Pu
open Pu.Rp (rp)
open PySem PySem.Spec PyProof.Rows L2
theorem snoc {A : Type} : forall s : List A, s = [] ∨ exists t l, s = t ++ [l]
  | [] => .inl rfl
  | x :: s => .inr (match snoc s with
    | .inl h => ⟨[], x, by rw [h]; rfl⟩
    | .inr ⟨t, l, h⟩ => ⟨x :: t, l, by rw [h]; rfl⟩)
theorem ix_last {A : Type} (s : List A) (l : A) : ix (s ++ [l]) (-1) = some l := atI_last s l
theorem fPop_last {A : Type} (s : List A) (l : A) : fPop (s ++ [l]) = some (l, s) := by
  unfold fPop
  simp
theorem fSet_last {A : Type} (s : List A) (l y : A) : fSetL (s ++ [l]) (-1) y = some (s ++ [y]) := by
  have e : ixN (s ++ [l]).length (-1) = some s.length := by
    unfold ixN
    rw [if_neg (by decide), if_pos (by simp; omega)]
    congr 1
    simp
    omega
  unfold fSetL
  rw [e]
  simp
theorem ix_nat {A : Type} {s : List A} {i : Int} (h0 : 0 ≤ i) (h1 : i < s.length) : exists x, ix s i = some x ∧ x ∈ s ∧ s[i.toNat]? = some x := by
  have h : i.toNat < s.length := by omega
  refine ⟨s[i.toNat], ?_, List.getElem_mem h, List.getElem?_eq_getElem h⟩
  have := atI_nat (List.getElem?_eq_getElem h)
  rwa [show ((i.toNat : Nat) : Int) = i by omega] at this
theorem cutM_len {A : Type} (xs : List A) (lo hi : Option Int) : (cutM xs lo hi).length ≤ xs.length := by
  unfold cutM
  simp only [List.length_take, List.length_drop]
  omega
/-! sets of whole numbers by stretches -/
def inn (L : List (Int × Int)) (n : Int) : Prop := exists p, p ∈ L ∧ p.1 ≤ n ∧ n ≤ p.2
theorem inn_nil {n : Int} : ¬ inn [] n := fun ⟨p, h, _⟩ => nomatch h
theorem inn_cons {p : Int × Int} {L : List (Int × Int)} {n : Int} : inn (p :: L) n ↔ (p.1 ≤ n ∧ n ≤ p.2) ∨ inn L n :=
  ⟨fun ⟨q, h, a⟩ => by
    rcases List.mem_cons.mp h with rfl | h
    · exact .inl a
    · exact .inr ⟨q, h, a⟩, fun h => by
    rcases h with a | ⟨q, h, a⟩
    · exact ⟨p, List.mem_cons_self, a⟩
    · exact ⟨q, List.mem_cons_of_mem _ h, a⟩⟩
theorem inn_app {L M : List (Int × Int)} {n : Int} : inn (L ++ M) n ↔ inn L n ∨ inn M n :=
  ⟨fun ⟨q, h, a⟩ => by
    rcases List.mem_append.mp h with h | h
    · exact .inl ⟨q, h, a⟩
    · exact .inr ⟨q, h, a⟩, fun h => by
    rcases h with ⟨q, h, a⟩ | ⟨q, h, a⟩
    · exact ⟨q, List.mem_append_left _ h, a⟩
    · exact ⟨q, List.mem_append_right _ h, a⟩⟩
theorem inn_one {p : Int × Int} {n : Int} : inn [p] n ↔ p.1 ≤ n ∧ n ≤ p.2 := inn_cons.trans ⟨fun h => h.elim id fun h => (inn_nil h).elim, .inl⟩
theorem inn_of {L M : List (Int × Int)} (h : forall p, p ∈ L ↔ p ∈ M) {n : Int} : inn L n ↔ inn M n := ⟨fun ⟨p, a, b⟩ => ⟨p, (h p).mp a, b⟩, fun ⟨p, a, b⟩ => ⟨p, (h p).mpr a, b⟩⟩
def Nrm (L : List (Int × Int)) : Prop := (forall p, p ∈ L -> p.1 ≤ p.2) ∧ L.Pairwise (fun p q => p.2 + 1 < q.1)
theorem Nrm.nil : Nrm [] := ⟨fun _ h => (nomatch h), List.Pairwise.nil⟩
theorem Nrm.tail {p : Int × Int} {L : List (Int × Int)} (h : Nrm (p :: L)) : Nrm L := ⟨fun q z => h.1 q (List.mem_cons_of_mem _ z), (List.pairwise_cons.mp h.2).2⟩
theorem Nrm.snoc {L : List (Int × Int)} {p : Int × Int} (h : Nrm L) (hp : p.1 ≤ p.2) (g : forall q, q ∈ L -> q.2 + 1 < p.1) : Nrm (L ++ [p]) :=
  ⟨fun q z => by
    rcases List.mem_append.mp z with z | z
    · exact h.1 q z
    · rw [List.mem_singleton.mp z]; exact hp, List.pairwise_append.mpr ⟨h.2, List.pairwise_singleton _ _, fun a ha b hb => by rw [List.mem_singleton.mp hb]; exact g a ha⟩⟩
theorem Nrm.init {L M : List (Int × Int)} (h : Nrm (L ++ M)) : Nrm L := ⟨fun q z => h.1 q (List.mem_append_left _ z), (List.pairwise_append.mp h.2).1⟩
theorem Nrm.last {L : List (Int × Int)} {p : Int × Int} (h : Nrm (L ++ [p])) : p.1 ≤ p.2 ∧ forall q, q ∈ L -> q.2 + 1 < p.1 :=
  ⟨h.1 p (by simp), fun q hq => (List.pairwise_append.mp h.2).2.2 q hq p (by simp)⟩
theorem Nrm.behind {p : Int × Int} {L : List (Int × Int)} (h : Nrm (p :: L)) {n : Int} (hn : inn L n) : p.2 + 1 < n := by
  obtain ⟨q, a, b, c⟩ := hn
  have := (List.pairwise_cons.mp h.2).1 q a
  omega
theorem nm_uniq : forall {L M : List (Int × Int)}, Nrm L -> Nrm M -> (forall n, inn L n ↔ inn M n) -> L = M
  | [], [], _, _, _ => rfl
  | [], q :: M, _, h2, h => (inn_nil ((h q.1).mpr (inn_cons.mpr (.inl ⟨Int.le_refl _, h2.1 q List.mem_cons_self⟩)))).elim
  | p :: L, [], h1, _, h => (inn_nil ((h p.1).mp (inn_cons.mpr (.inl ⟨Int.le_refl _, h1.1 p List.mem_cons_self⟩)))).elim
  | p :: L, q :: M, h1, h2, h => by
    have hp := h1.1 p List.mem_cons_self
    have hq := h2.1 q List.mem_cons_self
    have low : p.1 = q.1 := by
      have a : q.1 ≤ p.1 := by
        rcases inn_cons.mp ((h p.1).mp (inn_cons.mpr (.inl ⟨Int.le_refl _, hp⟩))) with a | a
        · exact a.1
        · have := h2.behind a; omega
      have b : p.1 ≤ q.1 := by
        rcases inn_cons.mp ((h q.1).mpr (inn_cons.mpr (.inl ⟨Int.le_refl _, hq⟩))) with a | a
        · exact a.1
        · have := h1.behind a; omega
      omega
    have high : p.2 = q.2 := by
      rcases Int.lt_trichotomy p.2 q.2 with c | c | c
      · rcases inn_cons.mp ((h (p.2 + 1)).mpr (inn_cons.mpr (.inl ⟨by omega, by omega⟩))) with a | a
        · omega
        · have := h1.behind a; omega
      · exact c
      · rcases inn_cons.mp ((h (q.2 + 1)).mp (inn_cons.mpr (.inl ⟨by omega, by omega⟩))) with a | a
        · omega
        · have := h2.behind a; omega
    have e : p = q := Prod.ext low high
    subst e
    rw [nm_uniq h1.tail h2.tail fun n => ⟨fun a => by
      rcases inn_cons.mp ((h n).mp (inn_cons.mpr (.inr a))) with b | b
      · have := h1.behind a; omega
      · exact b, fun a => by
      rcases inn_cons.mp ((h n).mpr (inn_cons.mpr (.inr a))) with b | b
      · have := h2.behind a; omega
      · exact b⟩]
theorem psort_mem {x : List (Int × Int)} (p : Int × Int) : p ∈ psort x ↔ p ∈ x := (psort_perm x).mem_iff
theorem psort_low (x : List (Int × Int)) : (psort x).Pairwise fun p q => p.1 ≤ q.1 := (psort_le x).imp fun h => by rw [ple_iff] at h; omega
theorem psort_len (x : List (Int × Int)) : (psort x).length = x.length := (psort_perm x).length_eq
theorem isort_mem {x : List Int} (p : Int) : p ∈ isort x ↔ p ∈ x := (isort_perm x).mem_iff
theorem isort_len (x : List Int) : (isort x).length = x.length := (isort_perm x).length_eq
/-- no two alike: they rise strictly -/
theorem isort_lt {x : List Int} (h : x.Nodup) : (isort x).Pairwise (· < ·) := by
  have a := isort_le x
  have b : (isort x).Nodup := (isort_perm x).nodup_iff.mpr h
  exact (List.Pairwise.and a b).imp fun ⟨p, q⟩ => by omega
/-! fields of numbers -/
theorem comp_all {I A : Type} {c : I -> Option Bool} {f : I -> Option A} {g : I -> A} : forall {xs : List I}, (forall x, x ∈ xs -> c x = some true) -> (forall x, x ∈ xs -> f x = some (g x)) -> comp c f xs = some (xs.map g)
  | [], _, _ => rfl
  | x :: xs, hc, h => by
    unfold comp
    rw [hc x List.mem_cons_self, h x List.mem_cons_self, comp_all (fun y hy => hc y (List.mem_cons_of_mem _ hy)) fun y hy => h y (List.mem_cons_of_mem _ hy)]
    rfl
theorem comp_ex {I A : Type} {f : I -> Option A} {P : A -> Prop} : forall {xs : List I}, (forall x, x ∈ xs -> exists y, f x = some y ∧ P y) -> exists r, comp (fun _ => some true) f xs = some r ∧ r.length = xs.length ∧ forall y, y ∈ r -> P y
  | [], _ => ⟨[], rfl, rfl, fun _ h => nomatch h⟩
  | x :: xs, h => by
    obtain ⟨y, e, p⟩ := h x List.mem_cons_self
    obtain ⟨r, e2, l, p2⟩ := comp_ex (xs := xs) fun z hz => h z (List.mem_cons_of_mem _ hz)
    refine ⟨y :: r, by simp [comp, e, e2], by simp [l], fun z hz => ?_⟩
    rcases List.mem_cons.mp hz with rfl | hz
    · exact p
    · exact p2 z hz
theorem comp_filter {I : Type} {c : I -> Bool} : forall {xs : List I}, comp (fun x => some (c x)) (fun x => some x) xs = some (xs.filter c)
  | [] => rfl
  | x :: xs => by
    unfold comp
    rw [comp_filter (xs := xs)]
    cases h : c x <;> simp [h]
theorem fMul_1 {i j : Int} (h : -18446744073709551616 < i ∧ i < 18446744073709551616 ∨ -18446744073709551616 < j ∧ j < 18446744073709551616) : fMul i j = some (i * j) := by
  unfold fMul mulOk
  rw [if_pos]
  rw [Bool.or_eq_true, Bool.and_eq_true, Bool.and_eq_true]
  simpa using h
theorem fMod_1 {i j : Int} (h : 0 < j) : fMod i j = some (i % j) := if_pos h
theorem fDiv_1 {i j : Int} (h : 0 < j ∧ j < 1073741824) : fDiv i j = some (i / j) := if_pos h
theorem fPow_1 {i : Int} {n : Nat} (h : n ≤ 1000000 ∧ i.natAbs < 18446744073709551616) : fPow i (n : Int) = some (i ^ n) := by
  unfold fPow powOk
  rw [if_pos]
  · rfl
  · simp; omega
theorem imin_le {i j : Int} : imin i j ≤ i ∧ imin i j ≤ j ∧ (imin i j = i ∨ imin i j = j) := by unfold imin; split <;> omega
theorem imax_le {i j : Int} : i ≤ imax i j ∧ j ≤ imax i j ∧ (imax i j = i ∨ imax i j = j) := by unfold imax; split <;> omega
end Pu

set_option Elab.async false
set_option linter.all false
set_option maxRecDepth 100000
namespace Pu
open Pu.Rp (rp)
open PySem PySem.Spec PyProof.Rows L2
def evs {A : Type} : List A -> List A
  | a :: _ :: r => a :: evs r
  | l => l
def ods {A : Type} : List A -> List A
  | _ :: b :: r => b :: ods r
  | _ => []
theorem pick_evs {A : Type} : forall xs : List A, ((List.range ((xs.length + 1) / 2)).map fun k => 2 * k).filterMap (xs[·]?) = evs xs
  | [] => by simp [evs]
  | [a] => by simp [evs, List.range_succ]
  | a :: b :: r => by
    have ih := pick_evs r
    have e : ((a :: b :: r).length + 1) / 2 = (r.length + 1) / 2 + 1 := by simp only [List.length_cons]; omega
    rw [e, List.range_succ_eq_map, List.map_cons, List.map_map, List.filterMap_cons_some (f := fun x => (a :: b :: r)[x]?) (b := a) rfl]
    unfold evs
    rw [← ih, List.filterMap_map, List.filterMap_map]
    congr 1
theorem pick_ods {A : Type} : forall xs : List A, ((List.range (xs.length / 2)).map fun k => 1 + 2 * k).filterMap (xs[·]?) = ods xs
  | [] => by simp [ods]
  | [a] => by simp [ods]
  | a :: b :: r => by
    have ih := pick_ods r
    have e : (a :: b :: r).length / 2 = r.length / 2 + 1 := by simp only [List.length_cons]; omega
    rw [e, List.range_succ_eq_map, List.map_cons, List.map_map, List.filterMap_cons_some (f := fun x => (a :: b :: r)[x]?) (b := b) rfl]
    unfold ods
    rw [← ih, List.filterMap_map, List.filterMap_map]
    congr 1
theorem stepM_evs {A : Type} (xs : List A) : stepM xs none none 2 = evs xs := by
  rw [← pick_evs]
  unfold stepM sliceBounds sliceRange
  simp only [Option.getD_some, Int.cast_ofNat_Int, gt_iff_lt, Int.reduceLT, if_true]
  congr 1
  by_cases h : xs.length = 0
  · simp [h]
  · rw [if_pos (by omega)]
    rw [show (((xs.length : Int) - 0 + 2 - 1) / 2).toNat = (xs.length + 1) / 2 by omega]
    congr 1
    funext k
    omega
theorem stepM_ods {A : Type} (xs : List A) : stepM xs (some 1) none 2 = ods xs := by
  rw [← pick_ods]
  unfold stepM sliceBounds sliceRange
  simp only [Option.getD_some, Int.cast_ofNat_Int, gt_iff_lt, Int.reduceLT, if_true, if_false]
  congr 1
  by_cases h : xs.length ≤ 1
  · rw [if_neg (by omega), show xs.length / 2 = 0 by omega]
    rfl
  · rw [if_pos (by omega)]
    rw [show ((xs.length : Int) - max 0 (min 1 (xs.length : Int)) + 2 - 1) / 2 = ((xs.length / 2 : Nat) : Int) by omega]
    congr 1
    funext k
    omega
/-! sorted(set(..)) -/
theorem sins_mem {x c : Int} : forall {l : List Int}, c ∈ sins x l ↔ c = x ∨ c ∈ l
  | [] => by simp [sins]
  | y :: r => by
    unfold sins
    split
    · simp
    · split
      · rename_i h; subst h; simp
      · rw [List.mem_cons, sins_mem (l := r), List.mem_cons]
        exact ⟨fun h => h.elim (fun h => .inr (.inl h)) fun h => h.elim .inl fun h => .inr (.inr h), fun h => h.elim (fun h => .inr (.inl h)) fun h => h.elim .inl fun h => .inr (.inr h)⟩
theorem sins_lt {x : Int} : forall {l : List Int}, l.Pairwise (· < ·) -> (sins x l).Pairwise (· < ·)
  | [], _ => by simp [sins]
  | y :: r, h => by
    obtain ⟨h1, h2⟩ := List.pairwise_cons.mp h
    unfold sins
    split
    · rename_i c
      exact List.pairwise_cons.mpr ⟨fun z hz => by
        rcases List.mem_cons.mp hz with rfl | hz
        · exact c
        · have := h1 z hz; omega, h⟩
    · split
      · exact h
      · exact List.pairwise_cons.mpr ⟨fun z hz => by
          rcases sins_mem.mp hz with rfl | hz
          · omega
          · exact h1 z hz, sins_lt h2⟩
theorem sins_len {x : Int} : forall {l : List Int}, (sins x l).length ≤ l.length + 1
  | [] => by simp [sins]
  | y :: r => by
    have := @sins_len x r
    unfold sins
    split
    · simp
    · split
      · simp
      · simp only [List.length_cons]; omega
theorem sset_ok : forall x : List Int, (sset x).Pairwise (· < ·) ∧ (forall c, c ∈ sset x ↔ c ∈ x) ∧ (sset x).length ≤ x.length
  | [] => ⟨List.Pairwise.nil, fun _ => Iff.rfl, Nat.le_refl _⟩
  | a :: x => by
    obtain ⟨h1, h2, h3⟩ := sset_ok x
    refine ⟨sins_lt h1, fun c => ?_, Nat.le_trans sins_len (by simp only [List.length_cons]; unfold sset at h3; omega)⟩
    show c ∈ sins a (sset x) ↔ _
    rw [sins_mem, h2, List.mem_cons]
end Pu

set_option Elab.async false
set_option linter.all false
set_option maxRecDepth 100000
namespace Law
open PySem PySem.Spec PyProof.Rows L2 Pu
open Pu.Rp (rp)
def topS (i : Nat) : Stmt := PySem.Challenge.pw_gatewright_k08_whole_sets_by_numbers.main.body.getD i (.Pass ⟨0, 0, 0, 0⟩)
abbrev s_whole_to : Stmt := topS 4
theorem sc_whole_to : FnScope ["most", "thing"] ["most", "thing"] (defScope s_whole_to) := ⟨rfl, rfl, rfl, by decide +kernel, rfl, by decide +kernel, by decide +kernel⟩
abbrev s_is_stretch : Stmt := topS 5
theorem sc_is_stretch : FnScope ["most", "thing", "low", "high"] ["most", "thing"] (defScope s_is_stretch) := ⟨rfl, rfl, rfl, by decide +kernel, rfl, by decide +kernel, by decide +kernel⟩
abbrev s_merged : Stmt := topS 7
theorem sc_merged : FnScope ["rising", "found", "low", "high", "begin", "end"] ["rising"] (defScope s_merged) := ⟨rfl, rfl, rfl, by decide +kernel, rfl, by decide +kernel, by decide +kernel⟩
abbrev s_set_of : Stmt := topS 6
theorem sc_set_of : FnScope ["most", "pairs", "pair"] ["most", "pairs"] (defScope s_set_of) := ⟨rfl, rfl, rfl, by decide +kernel, rfl, by decide +kernel, by decide +kernel⟩
abbrev s_joined : Stmt := topS 8
theorem sc_joined : FnScope ["one", "other"] ["one", "other"] (defScope s_joined) := ⟨rfl, rfl, rfl, by decide +kernel, rfl, by decide +kernel, by decide +kernel⟩
abbrev s_cut : Stmt := topS 9
theorem sc_cut : FnScope ["one", "other", "found", "here", "there", "low", "high"] ["one", "other"] (defScope s_cut) := ⟨rfl, rfl, rfl, by decide +kernel, rfl, by decide +kernel, by decide +kernel⟩
abbrev s_turned : Stmt := topS 11
theorem sc_turned : FnScope ["most", "one", "found", "free", "low", "high"] ["most", "one"] (defScope s_turned) := ⟨rfl, rfl, rfl, by decide +kernel, rfl, by decide +kernel, by decide +kernel⟩
abbrev s_less : Stmt := topS 10
theorem sc_less : FnScope ["one", "other", "highest"] ["one", "other"] (defScope s_less) := ⟨rfl, rfl, rfl, by decide +kernel, rfl, by decide +kernel, by decide +kernel⟩
abbrev s_has : Stmt := topS 12
theorem sc_has : FnScope ["one", "number", "begin", "end", "middle"] ["one", "number"] (defScope s_has) := ⟨rfl, rfl, rfl, by decide +kernel, rfl, by decide +kernel, by decide +kernel⟩
abbrev s_size : Stmt := topS 13
theorem sc_size : FnScope ["one", "low", "high"] ["one"] (defScope s_size) := ⟨rfl, rfl, rfl, by decide +kernel, rfl, by decide +kernel, by decide +kernel⟩
abbrev s_least : Stmt := topS 14
theorem sc_least : FnScope ["one"] ["one"] (defScope s_least) := ⟨rfl, rfl, rfl, by decide +kernel, rfl, by decide +kernel, by decide +kernel⟩
abbrev s_parts : Stmt := topS 15
theorem sc_parts : FnScope ["most", "some", "begins", "one", "low", "high", "rising", "behind"] ["most", "some"] (defScope s_parts) := ⟨rfl, rfl, rfl, by decide +kernel, rfl, by decide +kernel, by decide +kernel⟩
abbrev s_law_mixed : Stmt := topS 17
theorem sc_law_mixed : FnScope ["_law_cell", "_law_k", "_law_number"] ["_law_cell", "_law_k"] (defScope s_law_mixed) := ⟨rfl, rfl, rfl, by decide +kernel, rfl, by decide +kernel, by decide +kernel⟩
abbrev s_law_great : Stmt := topS 18
theorem sc_law_great : FnScope ["_law_cell", "_law_k"] ["_law_cell", "_law_k"] (defScope s_law_great) := ⟨rfl, rfl, rfl, by decide +kernel, rfl, by decide +kernel, by decide +kernel⟩
abbrev s_law_point : Stmt := topS 19
theorem sc_law_point : FnScope ["_law_cell", "_law_k", "_law_most", "_law_ahead", "_law_way"] ["_law_cell", "_law_k", "_law_most", "_law_ahead"] (defScope s_law_point) := ⟨rfl, rfl, rfl, by decide +kernel, rfl, by decide +kernel, by decide +kernel⟩
abbrev s_law_made : Stmt := topS 20
theorem sc_law_made : FnScope ["_law_most", "_law_begins", "_law_truths", "_law_found", "_law_begin", "_law_behind", "_law_truth"] ["_law_most", "_law_begins", "_law_truths"] (defScope s_law_made) := ⟨rfl, rfl, rfl, by decide +kernel, rfl, by decide +kernel, by decide +kernel⟩
abbrev s_law_most_by : Stmt := topS 21
theorem sc_law_most_by : FnScope ["_law_script", "_law_cell"] ["_law_script"] (defScope s_law_most_by) := ⟨rfl, rfl, rfl, by decide +kernel, rfl, by decide +kernel, by decide +kernel⟩
abbrev s_law_deed : Stmt := topS 22
theorem sc_law_deed : FnScope ["_law_cell", "_law_most", "_law_kept", "_law_truths", "_law_begins", "_law_way", "_law_at", "_law_other", "_law_deed_here", "_law_first", "_law_last", "_law_stretch", "_law_mine", "_law_its", "_law_begin", "_law_k"] ["_law_cell", "_law_most", "_law_kept", "_law_truths", "_law_begins"] (defScope s_law_deed) := ⟨rfl, rfl, rfl, by decide +kernel, rfl, by decide +kernel, by decide +kernel⟩
abbrev s_law_asked : Stmt := topS 23
theorem sc_law_asked : FnScope ["_law_most", "_law_one", "_law_truths", "_law_begins", "_law_number", "_law_ends", "_law_due", "_law_found", "_law_begin", "_law_end", "_law_truth"] ["_law_most", "_law_one", "_law_truths", "_law_begins", "_law_number"] (defScope s_law_asked) := ⟨rfl, rfl, rfl, by decide +kernel, rfl, by decide +kernel, by decide +kernel⟩
abbrev s_law : Stmt := topS 24
theorem sc_law : FnScope ["_law_script", "_law_most", "_law_ahead", "_law_k", "_law_cell", "_law_begins", "_law_kept", "_law_truths", "_law_at", "_law_found", "_law_due", "_law_j", "_law_begin", "_law_some", "_law_low", "_law_high"] ["_law_script"] (defScope s_law) := ⟨rfl, rfl, rfl, by decide +kernel, rfl, by decide +kernel, by decide +kernel⟩
theorem bb_any : bootBuiltins "any" = some (.builtin "any") := by decide +kernel
theorem bb_bool : bootBuiltins "bool" = some (.type "bool") := by decide +kernel
theorem bb_enumerate : bootBuiltins "enumerate" = some (.type "enumerate") := by decide +kernel
theorem bb_int : bootBuiltins "int" = some (.type "int") := by decide +kernel
theorem bb_isinstance : bootBuiltins "isinstance" = some (.builtin "isinstance") := by decide +kernel
theorem bb_len : bootBuiltins "len" = some (.builtin "len") := by decide +kernel
theorem bb_list : bootBuiltins "list" = some (.type "list") := by decide +kernel
theorem bb_max : bootBuiltins "max" = some (.builtin "max") := by decide +kernel
theorem bb_min : bootBuiltins "min" = some (.builtin "min") := by decide +kernel
theorem bb_range : bootBuiltins "range" = some (.type "range") := by decide +kernel
theorem bb_set : bootBuiltins "set" = some (.type "set") := by decide +kernel
theorem bb_sorted : bootBuiltins "sorted" = some (.builtin "sorted") := by decide +kernel
theorem bb_sum : bootBuiltins "sum" = some (.builtin "sum") := by decide +kernel
theorem bb_tuple : bootBuiltins "tuple" = some (.type "tuple") := by decide +kernel
theorem bb_zip : bootBuiltins "zip" = some (.type "zip") := by decide +kernel
structure Txt (K : Fg) (mg : Str → Option Value) where
  a_whole_to : Addr
  d_whole_to : FuncData
  F_whole_to : Fun K "whole_to" "whole_to" s_whole_to a_whole_to d_whole_to
  b_whole_to : Binds K d_whole_to ["most", "thing"] []
  g_whole_to : mg "whole_to" = some (.ref a_whole_to)
  a_is_stretch : Addr
  d_is_stretch : FuncData
  F_is_stretch : Fun K "is_stretch" "is_stretch" s_is_stretch a_is_stretch d_is_stretch
  b_is_stretch : Binds K d_is_stretch ["most", "thing"] []
  g_is_stretch : mg "is_stretch" = some (.ref a_is_stretch)
  a_merged : Addr
  d_merged : FuncData
  F_merged : Fun K "merged" "merged" s_merged a_merged d_merged
  b_merged : Binds K d_merged ["rising"] []
  g_merged : mg "merged" = some (.ref a_merged)
  a_set_of : Addr
  d_set_of : FuncData
  F_set_of : Fun K "set_of" "set_of" s_set_of a_set_of d_set_of
  b_set_of : Binds K d_set_of ["most", "pairs"] []
  g_set_of : mg "set_of" = some (.ref a_set_of)
  a_joined : Addr
  d_joined : FuncData
  F_joined : Fun K "joined" "joined" s_joined a_joined d_joined
  b_joined : Binds K d_joined ["one", "other"] []
  g_joined : mg "joined" = some (.ref a_joined)
  a_cut : Addr
  d_cut : FuncData
  F_cut : Fun K "cut" "cut" s_cut a_cut d_cut
  b_cut : Binds K d_cut ["one", "other"] []
  g_cut : mg "cut" = some (.ref a_cut)
  a_turned : Addr
  d_turned : FuncData
  F_turned : Fun K "turned" "turned" s_turned a_turned d_turned
  b_turned : Binds K d_turned ["most", "one"] []
  g_turned : mg "turned" = some (.ref a_turned)
  a_less : Addr
  d_less : FuncData
  F_less : Fun K "less" "less" s_less a_less d_less
  b_less : Binds K d_less ["one", "other"] []
  g_less : mg "less" = some (.ref a_less)
  a_has : Addr
  d_has : FuncData
  F_has : Fun K "has" "has" s_has a_has d_has
  b_has : Binds K d_has ["one", "number"] []
  g_has : mg "has" = some (.ref a_has)
  a_size : Addr
  d_size : FuncData
  F_size : Fun K "size" "size" s_size a_size d_size
  b_size : Binds K d_size ["one"] []
  g_size : mg "size" = some (.ref a_size)
  a_least : Addr
  d_least : FuncData
  F_least : Fun K "least" "least" s_least a_least d_least
  b_least : Binds K d_least ["one"] []
  g_least : mg "least" = some (.ref a_least)
  a_parts : Addr
  d_parts : FuncData
  F_parts : Fun K "parts" "parts" s_parts a_parts d_parts
  b_parts : Binds K d_parts ["most", "some"] []
  g_parts : mg "parts" = some (.ref a_parts)
  a_law_mixed : Addr
  d_law_mixed : FuncData
  F_law_mixed : Fun K "_law_mixed" "_law_mixed" s_law_mixed a_law_mixed d_law_mixed
  b_law_mixed : Binds K d_law_mixed ["_law_cell", "_law_k"] []
  g_law_mixed : mg "_law_mixed" = some (.ref a_law_mixed)
  a_law_great : Addr
  d_law_great : FuncData
  F_law_great : Fun K "_law_great" "_law_great" s_law_great a_law_great d_law_great
  b_law_great : Binds K d_law_great ["_law_cell", "_law_k"] []
  g_law_great : mg "_law_great" = some (.ref a_law_great)
  a_law_point : Addr
  d_law_point : FuncData
  F_law_point : Fun K "_law_point" "_law_point" s_law_point a_law_point d_law_point
  b_law_point : Binds K d_law_point ["_law_cell", "_law_k", "_law_most", "_law_ahead"] []
  g_law_point : mg "_law_point" = some (.ref a_law_point)
  a_law_made : Addr
  d_law_made : FuncData
  F_law_made : Fun K "_law_made" "_law_made" s_law_made a_law_made d_law_made
  b_law_made : Binds K d_law_made ["_law_most", "_law_begins", "_law_truths"] []
  g_law_made : mg "_law_made" = some (.ref a_law_made)
  a_law_most_by : Addr
  d_law_most_by : FuncData
  F_law_most_by : Fun K "_law_most_by" "_law_most_by" s_law_most_by a_law_most_by d_law_most_by
  b_law_most_by : Binds K d_law_most_by ["_law_script"] []
  g_law_most_by : mg "_law_most_by" = some (.ref a_law_most_by)
  a_law_deed : Addr
  d_law_deed : FuncData
  F_law_deed : Fun K "_law_deed" "_law_deed" s_law_deed a_law_deed d_law_deed
  b_law_deed : Binds K d_law_deed ["_law_cell", "_law_most", "_law_kept", "_law_truths", "_law_begins"] []
  g_law_deed : mg "_law_deed" = some (.ref a_law_deed)
  a_law_asked : Addr
  d_law_asked : FuncData
  F_law_asked : Fun K "_law_asked" "_law_asked" s_law_asked a_law_asked d_law_asked
  b_law_asked : Binds K d_law_asked ["_law_most", "_law_one", "_law_truths", "_law_begins", "_law_number"] []
  g_law_asked : mg "_law_asked" = some (.ref a_law_asked)
  a_law : Addr
  d_law : FuncData
  F_law : Fun K "law" "law" s_law a_law d_law
  b_law : Binds K d_law ["_law_script"] []
  g_law : mg "law" = some (.ref a_law)
  n_any : mg "any" = none
  n_bool : mg "bool" = none
  n_enumerate : mg "enumerate" = none
  n_int : mg "int" = none
  n_isinstance : mg "isinstance" = none
  n_len : mg "len" = none
  n_list : mg "list" = none
  n_max : mg "max" = none
  n_min : mg "min" = none
  n_range : mg "range" = none
  n_set : mg "set" = none
  n_sorted : mg "sorted" = none
  n_sum : mg "sum" = none
  n_tuple : mg "tuple" = none
  n_zip : mg "zip" = none
/-! whole_to -/
def m_whole_to (x_most : Int) (x_thing : Int) : Option Bool := (oAnd (o1 (fIs true) (some x_thing)) (oAnd (oNot (o1 (fIs false) (some x_thing))) (oChain fLe fLe (some (0 : Int)) (some x_thing) (some x_most))))
set_option maxHeartbeats 4000000 in
theorem ok_whole_to {P : Program} {w : World} {K : Fg} {mg : Str → Option Value} {base : Heap} (T : Txt K mg) : FnOk P w K mg base CX0 1 T.a_whole_to T.d_whole_to ["most", "thing"] (PSb K (A2 K m_whole_to)) := by
  refine T.F_whole_to.ok sc_whole_to (fun vs H Q E h => ?_) (fun cdv A0 outer s H vs Q E hr h => ?_)
  · obtain ⟨r, ⟨v_most, v_thing, x_most, x_thing, rfl, r_most, r_thing, hm⟩, q⟩ := h
    rfl
  · obtain ⟨r_fn, ⟨v_most, v_thing, x_most, x_thing, rfl, r_most, r_thing, hm⟩, q⟩ := h
    refine ⟨_, (pss_cons (ps_ret (pe_and (pe_callB (isi_K (K := K) rfl) (by rfl) T.n_isinstance bb_isinstance (pa_cons (pv 1) (pa_cons (pe_bltn (v := .ty "int") (by rfl) T.n_int bb_int rfl) pa_nil))) (pe_and (pe_not (pe_callB (isi_K (K := K) rfl) (by rfl) T.n_isinstance bb_isinstance (pa_cons (pv 1) (pa_cons (pe_bltn (v := .ty "bool") (by rfl) T.n_bool bb_bool rfl) pa_nil)))) (pe_one (by exact pe_chain op_le op_le pe_int (pv 1) (pv 0)))))) pss_nil), ?_⟩
    unfold m_whole_to at hm
    obtain ⟨H0, e0, q⟩ := heapB q
    obtain ⟨G, A, r_most, r_thing⟩ : exists G, At G H [] ∧ rp K G v_most x_most ∧ rp K G v_thing x_thing := ⟨H, At.nil H, r_most, r_thing⟩
    exact sr_b (eb_and (x_isi (b := true) (by exact L2.kit_ty (by decide +kernel)) (eb_v rfl (Rp.mono A.ex r_thing))) (eb_and (eb_not (x_isi (b := false) (by exact L2.kit_ty (by decide +kernel)) (eb_v rfl (Rp.mono A.ex r_thing)))) (x_lele (eb_int (K := K)) (eb_v rfl (Rp.mono A.ex r_thing)) (eb_v rfl (Rp.mono A.ex r_most))))) hm fun w H e r => q w H (e0.trans e) r
/-! is_stretch -/
def m_is_stretch (x_most : Int) (x_thing : (Int × Int)) : Option Bool := ((oOr (oNot (o1 (fIs true) (some x_thing))) (o2 fNe (o1 fLen2 (some x_thing)) (some (2 : Int))))).bind fun b1 => if b1 = true then (some false) else (((some x_thing)).bind fun y3 => (oAnd (o2 m_whole_to (some x_most) (some y3.1)) (oAnd (o2 m_whole_to (some x_most) (some y3.2)) (o2 fLe (some y3.1) (some y3.2)))))
set_option maxHeartbeats 4000000 in
theorem ok_is_stretch {P : Program} {w : World} {K : Fg} {mg : Str → Option Value} {base : Heap} (T : Txt K mg) : FnOk P w K mg base CX0 2 T.a_is_stretch T.d_is_stretch ["most", "thing"] (PSb K (A2 K m_is_stretch)) := by
  refine T.F_is_stretch.ok sc_is_stretch (fun vs H Q E h => ?_) (fun cdv A0 outer s H vs Q E hr h => ?_)
  · obtain ⟨r, ⟨v_most, v_thing, x_most, x_thing, rfl, r_most, r_thing, hm⟩, q⟩ := h
    rfl
  · obtain ⟨r_fn, ⟨v_most, v_thing, x_most, x_thing, rfl, r_most, r_thing, hm⟩, q⟩ := h
    refine ⟨_, (pss_cons (ps_if (PW.pt (pw_or (pt_not (pt_val (pe_callB (isi_K (K := K) rfl) (by rfl) T.n_isinstance bb_isinstance (pa_cons (pv 1) (pa_cons (pe_bltn (v := .ty "tuple") (by rfl) T.n_tuple bb_tuple rfl) pa_nil))))) (pw_or1 (pt_cmpR (opNe_K (K := K) rfl hr.units) (pe_callB (len_K (K := K) rfl) (by rfl) T.n_len bb_len (pa_cons (pv 1) pa_nil)) pe_int (nomark _))))) (pss_cons (ps_ret pe_bl) pss_nil) pss_nil) (pss_cons (ps_asg (pv 1) (pg_tup rfl (pgs_cons (pg_name (i := 2) sc_is_stretch.nd rfl (by first | exact Or.inl rfl | exact Or.inr rfl)) (pgs_cons (pg_name (i := 3) sc_is_stretch.nd rfl (by first | exact Or.inl rfl | exact Or.inr rfl)) pgs_nil)))) (pss_cons (ps_ret (pe_and (pe_call (ok_whole_to T) (hr.mono (by decide)) (by rfl) T.g_whole_to T.F_whole_to.kp T.b_whole_to .nil pass0 (pa_cons (pv 0) (pa_cons (pv 2) pa_nil))) (pe_and (pe_call (ok_whole_to T) (hr.mono (by decide)) (by rfl) T.g_whole_to T.F_whole_to.kp T.b_whole_to .nil pass0 (pa_cons (pv 0) (pa_cons (pv 3) pa_nil))) (pe_one (pe_cmpR op_le (pv 2) (pv 3) (nomark _)))))) pss_nil))), ?_⟩
    unfold m_is_stretch at hm
    obtain ⟨H0, e0, q⟩ := heapB q
    obtain ⟨G, A, r_most, r_thing⟩ : exists G, At G H [] ∧ rp K G v_most x_most ∧ rp K G v_thing x_thing := ⟨H, At.nil H, r_most, r_thing⟩
    obtain ⟨b1, hb1, hm⟩ := bnd hm
    refine st_if (et_or (et_not (et_b (x_isi (b := true) (by exact L2.kit_ty (by decide +kernel)) (eb_v rfl (Rp.mono A.ex r_thing))))) (et_test (x_ne (by decide) (x_len2 (eb_v rfl (Rp.mono A.ex r_thing))) (eb_int (K := K))))) hb1 (fun eb1 H2 e => ?_) (fun eb1 H2 e => ?_)
    · subst eb1
      replace hm := itt hm
      replace A := A.grow e
      replace e0 := e0.trans e
      exact sr_b (eb_bl (K := K)) hm fun w H e r => q w H (e0.trans e) r
    · subst eb1
      replace hm := itf hm
      replace A := A.grow e
      replace e0 := e0.trans e
      obtain ⟨y3, hy3, hm⟩ := bnd hm
      refine st_asgP (eb_v rfl (Rp.mono A.ex r_thing)) hy3 (tg_p tg_n tg_n) fun σ2 H4 e hb => ?_
      obtain ⟨_, ⟨v_low, r_low, rfl⟩, ⟨v_high, r_high, rfl⟩⟩ := hb
      replace A := A.grow e
      replace e0 := e0.trans e
      replace r_low := Im.im A.tx r_low
      replace r_high := Im.im A.tx r_high
      have g := A.gh
      replace A := A.hid
      replace r_most := Rp.mono g r_most
      replace r_thing := Rp.mono g r_thing
      generalize hid _ _ = G5 at *
      exact sr_b (eb_and (eb_call (em2 (eb_v rfl (Rp.mono A.ex r_most)) (eb_v rfl (Rp.mono A.ex r_low)))) (eb_and (eb_call (em2 (eb_v rfl (Rp.mono A.ex r_most)) (eb_v rfl (Rp.mono A.ex r_high)))) (x_le (eb_v rfl (Rp.mono A.ex r_low)) (eb_v rfl (Rp.mono A.ex r_high))))) hm fun w H e r => q w H (e0.trans e) r
/-! merged -/
def m_merged_l1 (s7 : (List (Int × Int))) (x7 : (Int × Int)) : Option (List (Int × Int)) := ((oAnd (o1 fTru (some s7)) (o2 fLe (some x7.1) (o2 fAdd (o1 fSnd (o2 ix (some s7) (o1 fNeg (some (1 : Int))))) (some (1 : Int)))))).bind fun b13 => if b13 = true then ((fPop s7).bind fun y15 => ((o2 fPair (some y15.1.1) (o2 fMax (some y15.1.2) (some x7.2)))).bind fun y18 => (fApp y15.2 y18).bind fun x_found => some x_found) else (((o2 fPair (some x7.1) (some x7.2))).bind fun y22 => (fApp s7 y22).bind fun x_found => some x_found)
def m_merged (x_rising : (List (Int × Int))) : Option (Tl (Int × Int)) := ((some x_rising)).bind fun xs7 => (foldO m_merged_l1 ([] : List (Int × Int)) xs7).bind fun w7 => (o1 fTuple (some w7))
set_option maxHeartbeats 4000000 in
theorem ok_merged {P : Program} {w : World} {K : Fg} {mg : Str → Option Value} {base : Heap} (T : Txt K mg) : FnOk P w K mg base CX0 1 T.a_merged T.d_merged ["rising"] (PSb K (A1 K m_merged)) := by
  refine T.F_merged.ok sc_merged (fun vs H Q E h => ?_) (fun cdv A0 outer s H vs Q E hr h => ?_)
  · obtain ⟨r, ⟨v_rising, x_rising, rfl, r_rising, hm⟩, q⟩ := h
    rfl
  · obtain ⟨r_fn, ⟨v_rising, x_rising, rfl, r_rising, hm⟩, q⟩ := h
    refine ⟨_, (pss_cons (ps_set (i := 1) sc_merged.nd rfl (by first | exact Or.inl rfl | exact Or.inr rfl) (pe_lst pa_nil)) (pss_cons (ps_for PassesOwn.never rfl (piL_K (K := K) rfl (pv 0)) (pg_tup rfl (pgs_cons (pg_name (i := 2) sc_merged.nd rfl (by first | exact Or.inl rfl | exact Or.inr rfl)) (pgs_cons (pg_name (i := 3) sc_merged.nd rfl (by first | exact Or.inl rfl | exact Or.inr rfl)) pgs_nil))) (pss_cons (ps_if (PW.pt (pw_and (pt_truth (pv 1) (by intro _; rfl)) (pw_and1 (pt_cmpR op_le (pv 2) (pe_op op_add (pe_ix (ixT_K (K := K) rfl) (pe_ix (ixL_K (K := K) rfl) (pv 1) (pe_un un_neg pe_int) (fun _ _ => rfl)) pe_int (fun _ _ => rfl)) pe_int) (nomark _))))) (pss_cons (ps_asg (pe_bm0 PySem.F.plainAttrs_list PySem.F.slot_list_pop PySem.F.type_list_pop mt_pop (pv 1)) (pg_tup rfl (pgs_cons (pg_name (i := 4) sc_merged.nd rfl (by first | exact Or.inl rfl | exact Or.inr rfl)) (pgs_cons (pg_name (i := 5) sc_merged.nd rfl (by first | exact Or.inl rfl | exact Or.inr rfl)) pgs_nil)))) (pss_cons (ps_expr (pe_bm PySem.F.plainAttrs_list PySem.F.slot_list_append PySem.F.type_list_append mt_append (pv 1) (pa_cons (pe_tup (pa_cons (pv 4) (pa_cons (pe_callB (call_max2 rfl) (by rfl) T.n_max bb_max (pa_cons (pv 5) (pa_cons (pv 3) pa_nil))) pa_nil))) pa_nil))) pss_nil)) (pss_cons (ps_expr (pe_bm PySem.F.plainAttrs_list PySem.F.slot_list_append PySem.F.type_list_append mt_append (pv 1) (pa_cons (pe_tup (pa_cons (pv 2) (pa_cons (pv 3) pa_nil))) pa_nil))) pss_nil)) pss_nil)) (pss_cons (ps_ret (pe_callTy (tof_K (K := K) rfl) (by rfl) T.n_tuple bb_tuple (pa_cons (pv 1) pa_nil))) pss_nil))), ?_⟩
    unfold m_merged at hm
    obtain ⟨H0, e0, q⟩ := heapB q
    obtain ⟨G, A, r_rising⟩ : exists G, At G H [] ∧ rp K G v_rising x_rising := ⟨H, At.nil H, r_rising⟩
    refine st_new A fun p_found hp_found A => ?_
    have ne0_found := e0.back hp_found
    replace e0 := e0.trans (Gx.new (o := HO.lst []) hp_found)
    have al_found : Al (rp K G) ([] : List V) ([] : List (Int × Int)) := trivial
    generalize upd _ p_found (.lst []) = H6 at A e0 ⊢
    obtain ⟨xs7, hx7, hm⟩ := bnd hm
    obtain ⟨w7, hl7, hm⟩ := bnd hm
    refine st_for (M := [p_found]) (i_list (es_v rfl r_rising A.ex (A.hM (by simp)))) hx7 fun J7 HL7 e wk7 => ?_
    replace A := A.grow e
    replace e0 := e0.trans e
    have eM7 : Gx (mns HL7 [p_found]) HL7 := mns_ex
    have gL7 : Gx G G := Gx.rfl
    have neM7_found : (mns HL7 [p_found]) p_found = none := mns_in (by simp)
    refine fold_run wk7 hl7 (tg_p tg_n tg_n) (fun (s7 : (List (Int × Int))) (σ : L2.St) (H : Hp) => exists (Gi : Hp) (k_low : Option V) (k_high : Option V) (k_begin : Option V) (k_end : Option V) (vs_found : List V), σ = [some v_rising, some (.ref p_found), k_low, k_high, k_begin, k_end] ∧ Gx H0 H ∧ Gx (mns HL7 [p_found]) H ∧ Gx G Gi ∧ At Gi H [(p_found, HO.lst vs_found)] ∧ Al (rp K Gi) vs_found s7) (fun s σ H h => ?_) ?_ (fun s7 x7 o7 σ H11 H9 σ2 hxm hf hin e hb => ?_) (fun σ H27 hin => ?_)
    · obtain ⟨Gi, k_low, k_high, k_begin, k_end, vs_found, rfl, e0, eM7, gL7, A, al_found⟩ := h
      exact eM7
    · exact ⟨_, _, _, _, _, _, rfl, e0, eM7, gL7, A, al_found⟩
    · obtain ⟨G8, k_low, k_high, k_begin, k_end, vs_found, rfl, e0, eM7, gL7, A, al_found⟩ := hin
      obtain ⟨_, ⟨v_low, r_low, rfl⟩, ⟨v_high, r_high, rfl⟩⟩ := hb
      replace A := A.grow e
      replace e0 := e0.trans e
      replace eM7 := eM7.trans e
      replace r_rising := Rp.mono gL7 r_rising
      replace r_low := Im.im A.tx r_low
      replace r_high := Im.im A.tx r_high
      have g := A.gh
      replace A := A.hid
      replace r_rising := Rp.mono g r_rising
      replace al_found := al_found.mono fun _ _ => Rp.mono g
      replace gL7 := gL7.trans g
      generalize hid _ _ = G12 at *
      have hm := hf
      unfold m_merged_l1 at hm
      obtain ⟨b13, hb13, hm⟩ := bnd hm
      refine st_if (et_and (t_tru (eb_v rfl (mv_rp A (List.Mem.head _) al_found))) (et_test (x_le (eb_v rfl (Rp.mono A.ex r_low)) (x_add (x_snd (x_ixL (eb_v rfl (mv_rp A (List.Mem.head _) al_found)) (x_neg (eb_int (K := K))))) (eb_int (K := K)))))) hb13 (fun eb13 H14 e => ?_) (fun eb13 H14 e => ?_)
      · subst eb13
        replace hm := itt hm
        replace A := A.grow e
        replace e0 := e0.trans e
        replace eM7 := eM7.trans e
        obtain ⟨y15, hy15, hm⟩ := bnd hm
        obtain ⟨hy15a, hy15b⟩ := fPops hy15
        refine st_popP (L1 := []) (slot_ref rfl) A al_found hy15a (tg_p tg_n tg_n) fun σ2 A hb => ?_
        replace al_found := al_dl al_found
        rw [← hy15b] at al_found
        replace e0 := Gx.mutA e0 ne0_found A
        replace eM7 := Gx.mutA eM7 neM7_found A
        generalize upd _ p_found (.lst _) = H16 at A hb e0 eM7 ⊢
        obtain ⟨_, ⟨v_begin, r_begin, rfl⟩, ⟨v_end, r_end, rfl⟩⟩ := hb
        replace r_begin := Im.im A.tx r_begin
        replace r_end := Im.im A.tx r_end
        have g := A.gh
        replace A := A.hid
        replace r_rising := Rp.mono g r_rising
        replace al_found := al_found.mono fun _ _ => Rp.mono g
        replace r_low := Rp.mono g r_low
        replace r_high := Rp.mono g r_high
        replace gL7 := gL7.trans g
        generalize hid _ _ = G17 at *
        obtain ⟨y18, hy18, hm⟩ := bnd hm
        obtain ⟨x_found, hd, hm⟩ := bnd hm
        replace hd := fApps hd
        refine st_app (L1 := []) (slot_ref rfl) ((x_pair (eb_v rfl (Rp.mono A.ex r_begin)) (x_max (eb_v rfl (Rp.mono A.ex r_end)) (eb_v rfl (Rp.mono A.ex r_high))))).own hy18 A (by rw [al_found.len]; exact hd.2) fun v_y18 G19 H20 g e A r_y18 => ?_
        replace r_rising := Rp.mono g r_rising
        replace al_found := al_found.mono fun _ _ => Rp.mono g
        replace r_low := Rp.mono g r_low
        replace r_high := Rp.mono g r_high
        replace r_begin := Rp.mono g r_begin
        replace r_end := Rp.mono g r_end
        replace gL7 := gL7.trans g
        replace e0 := e0.trans e
        replace eM7 := eM7.trans e
        replace al_found := al_found.app (Al.one r_y18)
        rw [← hd.1] at al_found
        replace e0 := Gx.mutA e0 ne0_found A
        replace eM7 := Gx.mutA eM7 neM7_found A
        generalize upd _ p_found (.lst _) = H21 at A e0 eM7 ⊢
        obtain rfl := Option.some.inj hm
        exact ⟨_, _, _, _, _, _, rfl, e0, eM7, gL7, A, al_found⟩
      · subst eb13
        replace hm := itf hm
        replace A := A.grow e
        replace e0 := e0.trans e
        replace eM7 := eM7.trans e
        obtain ⟨y22, hy22, hm⟩ := bnd hm
        obtain ⟨x_found, hd, hm⟩ := bnd hm
        replace hd := fApps hd
        refine st_app (L1 := []) (slot_ref rfl) ((x_pair (eb_v rfl (Rp.mono A.ex r_low)) (eb_v rfl (Rp.mono A.ex r_high)))).own hy22 A (by rw [al_found.len]; exact hd.2) fun v_y22 G23 H24 g e A r_y22 => ?_
        replace r_rising := Rp.mono g r_rising
        replace al_found := al_found.mono fun _ _ => Rp.mono g
        replace r_low := Rp.mono g r_low
        replace r_high := Rp.mono g r_high
        replace gL7 := gL7.trans g
        replace e0 := e0.trans e
        replace eM7 := eM7.trans e
        replace al_found := al_found.app (Al.one r_y22)
        rw [← hd.1] at al_found
        replace e0 := Gx.mutA e0 ne0_found A
        replace eM7 := Gx.mutA eM7 neM7_found A
        generalize upd _ p_found (.lst _) = H25 at A e0 eM7 ⊢
        obtain rfl := Option.some.inj hm
        exact ⟨_, _, _, _, _, _, rfl, e0, eM7, gL7, A, al_found⟩
    · obtain ⟨G26, k_low, k_high, k_begin, k_end, vs_found, rfl, e0, eM7, gL7, A, al_found⟩ := hin
      replace r_rising := Rp.mono gL7 r_rising
      exact sr_b (x_tuple (eb_v rfl (mv_rp A (List.Mem.head _) al_found))) hm fun w H e r => q w H (e0.trans e) r
/-! set_of -/
def m_set_of_l1 (z30_most : Int) (s30 : Unit) (x30 : (Int × Int)) : Option Unit := ((oNot (o2 m_is_stretch (some z30_most) (some x30)))).bind fun b36 => if b36 = true then none else (some ())
def m_set_of (x_most : Int) (x_pairs : (List (Int × Int))) : Option (Tl (Int × Int)) := ((oNot (o1 (fIs true) (some x_pairs)))).bind fun b28 => if b28 = true then none else (((some x_pairs)).bind fun xs30 => (foldO (m_set_of_l1 x_most) () xs30).bind fun w30 => (o1 m_merged (o1 fSortP (some x_pairs))))
set_option maxHeartbeats 4000000 in
theorem ok_set_of {P : Program} {w : World} {K : Fg} {mg : Str → Option Value} {base : Heap} (T : Txt K mg) : FnOk P w K mg base CX0 3 T.a_set_of T.d_set_of ["most", "pairs"] (PSb K (A2 K m_set_of)) := by
  refine T.F_set_of.ok sc_set_of (fun vs H Q E h => ?_) (fun cdv A0 outer s H vs Q E hr h => ?_)
  · obtain ⟨r, ⟨v_most, v_pairs, x_most, x_pairs, rfl, r_most, r_pairs, hm⟩, q⟩ := h
    rfl
  · obtain ⟨r_fn, ⟨v_most, v_pairs, x_most, x_pairs, rfl, r_most, r_pairs, hm⟩, q⟩ := h
    refine ⟨_, (pss_cons (ps_if (pt_not (pt_val (pe_callB (isi_K (K := K) rfl) (by rfl) T.n_isinstance bb_isinstance (pa_cons (pv 1) (pa_cons (pe_bltn (v := .ty "list") (by rfl) T.n_list bb_list rfl) pa_nil))))) (pss_cons ps_never pss_nil) pss_nil) (pss_cons (ps_for PassesOwn.never rfl (piL_K (K := K) rfl (pv 1)) (pg_name (i := 2) sc_set_of.nd rfl (by first | exact Or.inl rfl | exact Or.inr rfl)) (pss_cons (ps_if (pt_not (pt_val (pe_call (ok_is_stretch T) (hr.mono (by decide)) (by rfl) T.g_is_stretch T.F_is_stretch.kp T.b_is_stretch .nil pass0 (pa_cons (pv 0) (pa_cons (pv 2) pa_nil))))) (pss_cons ps_never pss_nil) pss_nil) pss_nil)) (pss_cons (ps_ret (pe_call (ok_merged T) (hr.mono (by decide)) (by rfl) T.g_merged T.F_merged.kp T.b_merged .nil pass0 (pa_cons (pe_callB cr_sortE (by rfl) T.n_sorted bb_sorted (pa_cons (pv 1) pa_nil)) pa_nil))) pss_nil))), ?_⟩
    unfold m_set_of at hm
    obtain ⟨H0, e0, q⟩ := heapB q
    obtain ⟨G, A, r_most, r_pairs⟩ : exists G, At G H [] ∧ rp K G v_most x_most ∧ rp K G v_pairs x_pairs := ⟨H, At.nil H, r_most, r_pairs⟩
    obtain ⟨b28, hb28, hm⟩ := bnd hm
    refine st_if (et_not (et_b (x_isi (b := true) (by exact L2.kit_ty (by decide +kernel)) (eb_v rfl (Rp.mono A.ex r_pairs))))) hb28 (fun eb28 H29 e => ?_) (fun eb28 H29 e => ?_)
    · subst eb28
      replace hm := itt hm
      replace A := A.grow e
      replace e0 := e0.trans e
      exact nomatch hm
    · subst eb28
      replace hm := itf hm
      replace A := A.grow e
      replace e0 := e0.trans e
      obtain ⟨xs30, hx30, hm⟩ := bnd hm
      obtain ⟨w30, hl30, hm⟩ := bnd hm
      refine st_for (M := []) (i_list (es_v rfl r_pairs A.ex (A.hM (by simp)))) hx30 fun J30 HL30 e wk30 => ?_
      replace A := A.grow e
      replace e0 := e0.trans e
      have eM30 : Gx (mns HL30 []) HL30 := mns_ex
      have gL30 : Gx G G := Gx.rfl
      refine fold_run wk30 hl30 tg_n (fun (s30 : Unit) (σ : L2.St) (H : Hp) => exists (Gi : Hp) (k_pair : Option V), σ = [some v_most, some v_pairs, k_pair] ∧ Gx H0 H ∧ Gx (mns HL30 []) H ∧ Gx G Gi ∧ At Gi H []) (fun s σ H h => ?_) ?_ (fun s30 x30 o30 σ H34 H32 σ2 hxm hf hin e hb => ?_) (fun σ H39 hin => ?_)
      · obtain ⟨Gi, k_pair, rfl, e0, eM30, gL30, A⟩ := h
        exact eM30
      · exact ⟨_, _, rfl, e0, eM30, gL30, A⟩
      · obtain ⟨G31, k_pair, rfl, e0, eM30, gL30, A⟩ := hin
        obtain ⟨v_pair, r_pair, rfl⟩ := hb
        replace A := A.grow e
        replace e0 := e0.trans e
        replace eM30 := eM30.trans e
        replace r_most := Rp.mono gL30 r_most
        replace r_pairs := Rp.mono gL30 r_pairs
        replace r_pair := Im.im A.tx r_pair
        have g := A.gh
        replace A := A.hid
        replace r_most := Rp.mono g r_most
        replace r_pairs := Rp.mono g r_pairs
        replace gL30 := gL30.trans g
        generalize hid _ _ = G35 at *
        have hm := hf
        unfold m_set_of_l1 at hm
        obtain ⟨b36, hb36, hm⟩ := bnd hm
        refine st_if (et_not (et_b (eb_call (em2 (eb_v rfl (Rp.mono A.ex r_most)) (eb_v rfl (Rp.mono A.ex r_pair)))))) hb36 (fun eb36 H37 e => ?_) (fun eb36 H37 e => ?_)
        · subst eb36
          replace hm := itt hm
          replace A := A.grow e
          replace e0 := e0.trans e
          replace eM30 := eM30.trans e
          exact nomatch hm
        · subst eb36
          replace hm := itf hm
          replace A := A.grow e
          replace e0 := e0.trans e
          replace eM30 := eM30.trans e
          obtain rfl := Option.some.inj hm
          exact ⟨_, _, rfl, e0, eM30, gL30, A⟩
      · obtain ⟨G38, k_pair, rfl, e0, eM30, gL30, A⟩ := hin
        replace r_most := Rp.mono gL30 r_most
        replace r_pairs := Rp.mono gL30 r_pairs
        exact sr_b (eb_call (em1 ((x_sortP (eb_v rfl (Rp.mono A.ex r_pairs)))).b)) hm fun w H e r => q w H (e0.trans e) r
/-! joined -/
def m_joined (x_one : (Tl (Int × Int))) (x_other : (Tl (Int × Int))) : Option (Tl (Int × Int)) := (o1 m_merged (o1 fSortPT (o2 fCatT (some x_one) (some x_other))))
set_option maxHeartbeats 4000000 in
theorem ok_joined {P : Program} {w : World} {K : Fg} {mg : Str → Option Value} {base : Heap} (T : Txt K mg) : FnOk P w K mg base CX0 2 T.a_joined T.d_joined ["one", "other"] (PSb K (A2 K m_joined)) := by
  refine T.F_joined.ok sc_joined (fun vs H Q E h => ?_) (fun cdv A0 outer s H vs Q E hr h => ?_)
  · obtain ⟨r, ⟨v_one, v_other, x_one, x_other, rfl, r_one, r_other, hm⟩, q⟩ := h
    rfl
  · obtain ⟨r_fn, ⟨v_one, v_other, x_one, x_other, rfl, r_one, r_other, hm⟩, q⟩ := h
    refine ⟨_, (pss_cons (ps_ret (pe_call (ok_merged T) (hr.mono (by decide)) (by rfl) T.g_merged T.F_merged.kp T.b_merged .nil pass0 (pa_cons (pe_callB cr_sortE (by rfl) T.n_sorted bb_sorted (pa_cons (pe_op op_catA (pv 0) (pv 1)) pa_nil)) pa_nil))) pss_nil), ?_⟩
    unfold m_joined at hm
    obtain ⟨H0, e0, q⟩ := heapB q
    obtain ⟨G, A, r_one, r_other⟩ : exists G, At G H [] ∧ rp K G v_one x_one ∧ rp K G v_other x_other := ⟨H, At.nil H, r_one, r_other⟩
    exact sr_b (eb_call (em1 ((x_sortPT (x_catT (eb_v rfl (Rp.mono A.ex r_one)) (eb_v rfl (Rp.mono A.ex r_other))))).b)) hm fun w H e r => q w H (e0.trans e) r
/-! cut -/
def m_cut_c1 (z43_one : (Tl (Int × Int))) (z43_other : (Tl (Int × Int))) (s43 : (List (Int × Int)) × Int × Int) : Option Bool := (oAnd (o2 fLt (some s43.2.1) (o1 fLenT (some z43_one))) (o2 fLt (some s43.2.2) (o1 fLenT (some z43_other))))
def m_cut_l1 (z43_one : (Tl (Int × Int))) (z43_other : (Tl (Int × Int))) (s43 : (List (Int × Int)) × Int × Int) : Option ((List (Int × Int)) × Int × Int) := ((o2 fMax (o1 fFst (o2 fIxT (some z43_one) (some s43.2.1))) (o1 fFst (o2 fIxT (some z43_other) (some s43.2.2))))).bind fun x_low => ((o2 fMin (o1 fSnd (o2 fIxT (some z43_one) (some s43.2.1))) (o1 fSnd (o2 fIxT (some z43_other) (some s43.2.2))))).bind fun x_high => ((o2 fLe (some x_low) (some x_high))).bind fun b56 => if b56 = true then (((o2 fPair (some x_low) (some x_high))).bind fun y58 => (fApp s43.1 y58).bind fun x_found => ((o2 fLt (o1 fSnd (o2 fIxT (some z43_one) (some s43.2.1))) (o1 fSnd (o2 fIxT (some z43_other) (some s43.2.2))))).bind fun b62 => if b62 = true then (((some (1 : Int))).bind fun y64 => some (x_found, (s43.2.1 + y64), s43.2.2)) else (((some (1 : Int))).bind fun y66 => some (x_found, s43.2.1, (s43.2.2 + y66)))) else (((o2 fLt (o1 fSnd (o2 fIxT (some z43_one) (some s43.2.1))) (o1 fSnd (o2 fIxT (some z43_other) (some s43.2.2))))).bind fun b68 => if b68 = true then (((some (1 : Int))).bind fun y70 => some (s43.1, (s43.2.1 + y70), s43.2.2)) else (((some (1 : Int))).bind fun y72 => some (s43.1, s43.2.1, (s43.2.2 + y72))))
def m_cut (x_one : (Tl (Int × Int))) (x_other : (Tl (Int × Int))) : Option (Tl (Int × Int)) := ((some (0 : Int))).bind fun x_here => (whileO (m_cut_c1 x_one x_other) (m_cut_l1 x_one x_other) (x_one.l.length + x_other.l.length + 1) (([] : List (Int × Int)), x_here, x_here)).bind fun w43 => (o1 fTuple (some w43.1))
set_option maxHeartbeats 4000000 in
theorem ok_cut {P : Program} {w : World} {K : Fg} {mg : Str → Option Value} {base : Heap} (T : Txt K mg) : FnOk P w K mg base CX0 1 T.a_cut T.d_cut ["one", "other"] (PSb K (A2 K m_cut)) := by
  refine T.F_cut.ok sc_cut (fun vs H Q E h => ?_) (fun cdv A0 outer s H vs Q E hr h => ?_)
  · obtain ⟨r, ⟨v_one, v_other, x_one, x_other, rfl, r_one, r_other, hm⟩, q⟩ := h
    rfl
  · obtain ⟨r_fn, ⟨v_one, v_other, x_one, x_other, rfl, r_one, r_other, hm⟩, q⟩ := h
    refine ⟨_, (pss_cons (ps_set (i := 2) sc_cut.nd rfl (by first | exact Or.inl rfl | exact Or.inr rfl) (pe_lst pa_nil)) (pss_cons (ps_asg2 pe_int (pg_name (i := 3) sc_cut.nd rfl (by first | exact Or.inl rfl | exact Or.inr rfl)) (pg_name (i := 4) sc_cut.nd rfl (by first | exact Or.inl rfl | exact Or.inr rfl))) (pss_cons (ps_while PassesOwn.never (PW.pt (pw_and (pt_cmpR op_lt (pv 3) (pe_callB (len_K (K := K) rfl) (by rfl) T.n_len bb_len (pa_cons (pv 0) pa_nil)) (nomark _)) (pw_and1 (pt_cmpR op_lt (pv 4) (pe_callB (len_K (K := K) rfl) (by rfl) T.n_len bb_len (pa_cons (pv 1) pa_nil)) (nomark _))))) (pss_cons (ps_set (i := 5) sc_cut.nd rfl (by first | exact Or.inl rfl | exact Or.inr rfl) (pe_callB (call_max2 rfl) (by rfl) T.n_max bb_max (pa_cons (pe_ix (ixT_K (K := K) rfl) (pe_ix (ixT_K (K := K) rfl) (pv 0) (pv 3) (fun _ _ => rfl)) pe_int (fun _ _ => rfl)) (pa_cons (pe_ix (ixT_K (K := K) rfl) (pe_ix (ixT_K (K := K) rfl) (pv 1) (pv 4) (fun _ _ => rfl)) pe_int (fun _ _ => rfl)) pa_nil)))) (pss_cons (ps_set (i := 6) sc_cut.nd rfl (by first | exact Or.inl rfl | exact Or.inr rfl) (pe_callB (call_min2 rfl) (by rfl) T.n_min bb_min (pa_cons (pe_ix (ixT_K (K := K) rfl) (pe_ix (ixT_K (K := K) rfl) (pv 0) (pv 3) (fun _ _ => rfl)) pe_int (fun _ _ => rfl)) (pa_cons (pe_ix (ixT_K (K := K) rfl) (pe_ix (ixT_K (K := K) rfl) (pv 1) (pv 4) (fun _ _ => rfl)) pe_int (fun _ _ => rfl)) pa_nil)))) (pss_cons (ps_if (pt_cmpR op_le (pv 5) (pv 6) (nomark _)) (pss_cons (ps_expr (pe_bm PySem.F.plainAttrs_list PySem.F.slot_list_append PySem.F.type_list_append mt_append (pv 2) (pa_cons (pe_tup (pa_cons (pv 5) (pa_cons (pv 6) pa_nil))) pa_nil))) pss_nil) pss_nil) (pss_cons (ps_if (pt_cmpR op_lt (pe_ix (ixT_K (K := K) rfl) (pe_ix (ixT_K (K := K) rfl) (pv 0) (pv 3) (fun _ _ => rfl)) pe_int (fun _ _ => rfl)) (pe_ix (ixT_K (K := K) rfl) (pe_ix (ixT_K (K := K) rfl) (pv 1) (pv 4) (fun _ _ => rfl)) pe_int (fun _ _ => rfl)) (nomark _)) (pss_cons (ps_aug (i := 3) sc_cut.nd rfl (by first | exact Or.inl rfl | exact Or.inr rfl) pe_int ip_add) pss_nil) (pss_cons (ps_aug (i := 4) sc_cut.nd rfl (by first | exact Or.inl rfl | exact Or.inr rfl) pe_int ip_add) pss_nil)) pss_nil))))) (pss_cons (ps_ret (pe_callTy (tof_K (K := K) rfl) (by rfl) T.n_tuple bb_tuple (pa_cons (pv 2) pa_nil))) pss_nil)))), ?_⟩
    unfold m_cut at hm
    obtain ⟨H0, e0, q⟩ := heapB q
    obtain ⟨G, A, r_one, r_other⟩ : exists G, At G H [] ∧ rp K G v_one x_one ∧ rp K G v_other x_other := ⟨H, At.nil H, r_one, r_other⟩
    refine st_new A fun p_found hp_found A => ?_
    have ne0_found := e0.back hp_found
    replace e0 := e0.trans (Gx.new (o := HO.lst []) hp_found)
    have al_found : Al (rp K G) ([] : List V) ([] : List (Int × Int)) := trivial
    generalize upd _ p_found (.lst []) = H40 at A e0 ⊢
    obtain ⟨x_here, hx, hm⟩ := bnd hm
    refine st_asg2 ((eb_int (K := K))).own hx A fun v_here G41 H42 g e A r_here => ?_
    replace r_one := Rp.mono g r_one
    replace r_other := Rp.mono g r_other
    replace al_found := al_found.mono fun _ _ => Rp.mono g
    replace e0 := e0.trans e
    have r_there := r_here
    obtain ⟨w43, hl43, hm⟩ := bnd hm
    have gL43 : Gx G41 G41 := Gx.rfl
    refine st_whileO hl43 (fun (s43 : (List (Int × Int)) × Int × Int) (σ : L2.St) (H : Hp) => exists (Gi : Hp) (k_low : Option V) (k_high : Option V) (vs_found : List V) (v_here : V) (v_there : V), σ = [some v_one, some v_other, some (.ref p_found), some v_here, some v_there, k_low, k_high] ∧ Gx H0 H ∧ Gx G41 Gi ∧ At Gi H [(p_found, HO.lst vs_found)] ∧ Al (rp K Gi) vs_found s43.1 ∧ rp K Gi v_here s43.2.1 ∧ rp K Gi v_there s43.2.2) ?_ (fun s43 σ H45 hin => ?_) (fun s43 o43 σ H48 H47 hcm hf hin e => ?_) (fun σ H51 H50 hin e => ?_)
    · exact ⟨_, _, _, _, _, _, rfl, e0, gL43, A, al_found, r_here, r_there⟩
    · obtain ⟨G44, k_low, k_high, vs_found, v_here, v_there, rfl, e0, gL43, A, al_found, r_here, r_there⟩ := hin
      replace r_one := Rp.mono gL43 r_one
      replace r_other := Rp.mono gL43 r_other
      show EvT _ _ _ (m_cut_c1 x_one x_other s43)
      unfold m_cut_c1
      exact (et_and (et_test (x_lt (eb_v rfl (Rp.mono A.ex r_here)) (x_lenT (eb_v rfl (Rp.mono A.ex r_one))))) (et_test (x_lt (eb_v rfl (Rp.mono A.ex r_there)) (x_lenT (eb_v rfl (Rp.mono A.ex r_other))))))
    · obtain ⟨G46, k_low, k_high, vs_found, v_here, v_there, rfl, e0, gL43, A, al_found, r_here, r_there⟩ := hin
      replace A := A.grow e
      replace e0 := e0.trans e
      replace r_one := Rp.mono gL43 r_one
      replace r_other := Rp.mono gL43 r_other
      have hm := hf
      unfold m_cut_l1 at hm
      obtain ⟨x_low, hx, hm⟩ := bnd hm
      refine st_asg ((x_max (x_fst (x_ixT (eb_v rfl (Rp.mono A.ex r_one)) (eb_v rfl (Rp.mono A.ex r_here)))) (x_fst (x_ixT (eb_v rfl (Rp.mono A.ex r_other)) (eb_v rfl (Rp.mono A.ex r_there)))))).own hx A fun v_low G52 H53 g e A r_low => ?_
      replace r_one := Rp.mono g r_one
      replace r_other := Rp.mono g r_other
      replace al_found := al_found.mono fun _ _ => Rp.mono g
      replace r_here := Rp.mono g r_here
      replace r_there := Rp.mono g r_there
      replace gL43 := gL43.trans g
      replace e0 := e0.trans e
      obtain ⟨x_high, hx, hm⟩ := bnd hm
      refine st_asg ((x_min (x_snd (x_ixT (eb_v rfl (Rp.mono A.ex r_one)) (eb_v rfl (Rp.mono A.ex r_here)))) (x_snd (x_ixT (eb_v rfl (Rp.mono A.ex r_other)) (eb_v rfl (Rp.mono A.ex r_there)))))).own hx A fun v_high G54 H55 g e A r_high => ?_
      replace r_one := Rp.mono g r_one
      replace r_other := Rp.mono g r_other
      replace al_found := al_found.mono fun _ _ => Rp.mono g
      replace r_here := Rp.mono g r_here
      replace r_there := Rp.mono g r_there
      replace r_low := Rp.mono g r_low
      replace gL43 := gL43.trans g
      replace e0 := e0.trans e
      obtain ⟨b56, hb56, hm⟩ := bnd hm
      refine st_if (et_test (x_le (eb_v rfl (Rp.mono A.ex r_low)) (eb_v rfl (Rp.mono A.ex r_high)))) hb56 (fun eb56 H57 e => ?_) (fun eb56 H57 e => ?_)
      · subst eb56
        replace hm := itt hm
        replace A := A.grow e
        replace e0 := e0.trans e
        obtain ⟨y58, hy58, hm⟩ := bnd hm
        obtain ⟨x_found, hd, hm⟩ := bnd hm
        replace hd := fApps hd
        refine st_app (L1 := []) (slot_ref rfl) ((x_pair (eb_v rfl (Rp.mono A.ex r_low)) (eb_v rfl (Rp.mono A.ex r_high)))).own hy58 A (by rw [al_found.len]; exact hd.2) fun v_y58 G59 H60 g e A r_y58 => ?_
        replace r_one := Rp.mono g r_one
        replace r_other := Rp.mono g r_other
        replace al_found := al_found.mono fun _ _ => Rp.mono g
        replace r_here := Rp.mono g r_here
        replace r_there := Rp.mono g r_there
        replace r_low := Rp.mono g r_low
        replace r_high := Rp.mono g r_high
        replace gL43 := gL43.trans g
        replace e0 := e0.trans e
        replace al_found := al_found.app (Al.one r_y58)
        rw [← hd.1] at al_found
        replace e0 := Gx.mutA e0 ne0_found A
        generalize upd _ p_found (.lst _) = H61 at A e0 ⊢
        obtain ⟨b62, hb62, hm⟩ := bnd hm
        refine st_if (et_test (x_lt (x_snd (x_ixT (eb_v rfl (Rp.mono A.ex r_one)) (eb_v rfl (Rp.mono A.ex r_here)))) (x_snd (x_ixT (eb_v rfl (Rp.mono A.ex r_other)) (eb_v rfl (Rp.mono A.ex r_there)))))) hb62 (fun eb62 H63 e => ?_) (fun eb62 H63 e => ?_)
        · subst eb62
          replace hm := itt hm
          replace A := A.grow e
          replace e0 := e0.trans e
          obtain ⟨y64, hy64, hm⟩ := bnd hm
          have er_here : v_here = V.int s43.2.1 := r_here
          refine st_aug (x := s43.2.1) (congrArg (fun z => some (some z)) er_here) (eb_int (K := K)) hy64 fun H65 e => ?_
          replace A := A.grow e
          replace e0 := e0.trans e
          have r_here : rp K G59 (V.int (s43.2.1 + y64)) (s43.2.1 + y64) := rfl
          obtain rfl := Option.some.inj hm
          exact ⟨_, _, _, _, _, _, rfl, e0, gL43, A, al_found, r_here, r_there⟩
        · subst eb62
          replace hm := itf hm
          replace A := A.grow e
          replace e0 := e0.trans e
          obtain ⟨y66, hy66, hm⟩ := bnd hm
          have er_there : v_there = V.int s43.2.2 := r_there
          refine st_aug (x := s43.2.2) (congrArg (fun z => some (some z)) er_there) (eb_int (K := K)) hy66 fun H67 e => ?_
          replace A := A.grow e
          replace e0 := e0.trans e
          have r_there : rp K G59 (V.int (s43.2.2 + y66)) (s43.2.2 + y66) := rfl
          obtain rfl := Option.some.inj hm
          exact ⟨_, _, _, _, _, _, rfl, e0, gL43, A, al_found, r_here, r_there⟩
      · subst eb56
        replace hm := itf hm
        replace A := A.grow e
        replace e0 := e0.trans e
        obtain ⟨b68, hb68, hm⟩ := bnd hm
        refine st_if (et_test (x_lt (x_snd (x_ixT (eb_v rfl (Rp.mono A.ex r_one)) (eb_v rfl (Rp.mono A.ex r_here)))) (x_snd (x_ixT (eb_v rfl (Rp.mono A.ex r_other)) (eb_v rfl (Rp.mono A.ex r_there)))))) hb68 (fun eb68 H69 e => ?_) (fun eb68 H69 e => ?_)
        · subst eb68
          replace hm := itt hm
          replace A := A.grow e
          replace e0 := e0.trans e
          obtain ⟨y70, hy70, hm⟩ := bnd hm
          have er_here : v_here = V.int s43.2.1 := r_here
          refine st_aug (x := s43.2.1) (congrArg (fun z => some (some z)) er_here) (eb_int (K := K)) hy70 fun H71 e => ?_
          replace A := A.grow e
          replace e0 := e0.trans e
          have r_here : rp K G54 (V.int (s43.2.1 + y70)) (s43.2.1 + y70) := rfl
          obtain rfl := Option.some.inj hm
          exact ⟨_, _, _, _, _, _, rfl, e0, gL43, A, al_found, r_here, r_there⟩
        · subst eb68
          replace hm := itf hm
          replace A := A.grow e
          replace e0 := e0.trans e
          obtain ⟨y72, hy72, hm⟩ := bnd hm
          have er_there : v_there = V.int s43.2.2 := r_there
          refine st_aug (x := s43.2.2) (congrArg (fun z => some (some z)) er_there) (eb_int (K := K)) hy72 fun H73 e => ?_
          replace A := A.grow e
          replace e0 := e0.trans e
          have r_there : rp K G54 (V.int (s43.2.2 + y72)) (s43.2.2 + y72) := rfl
          obtain rfl := Option.some.inj hm
          exact ⟨_, _, _, _, _, _, rfl, e0, gL43, A, al_found, r_here, r_there⟩
    · obtain ⟨G49, k_low, k_high, vs_found, v_here, v_there, rfl, e0, gL43, A, al_found, r_here, r_there⟩ := hin
      replace A := A.grow e
      replace e0 := e0.trans e
      replace r_one := Rp.mono gL43 r_one
      replace r_other := Rp.mono gL43 r_other
      exact sr_b (x_tuple (eb_v rfl (mv_rp A (List.Mem.head _) al_found))) hm fun w H e r => q w H (e0.trans e) r
/-! turned -/
def m_turned_l1 (s77 : (List (Int × Int)) × Int) (x77 : (Int × Int)) : Option ((List (Int × Int)) × Int) := ((o2 fLt (some s77.2) (some x77.1))).bind fun b83 => if b83 = true then (((o2 fPair (some s77.2) (o2 fSub (some x77.1) (some (1 : Int))))).bind fun y85 => (fApp s77.1 y85).bind fun x_found => ((o2 fAdd (some x77.2) (some (1 : Int)))).bind fun x_free => some (x_found, x_free)) else (((o2 fAdd (some x77.2) (some (1 : Int)))).bind fun x_free => some (s77.1, x_free))
def m_turned (x_most : Int) (x_one : (Tl (Int × Int))) : Option (Tl (Int × Int)) := ((some (0 : Int))).bind fun x_free => ((((some x_one)).map Tl.l)).bind fun xs77 => (foldO m_turned_l1 (([] : List (Int × Int)), x_free) xs77).bind fun w77 => ((o2 fLe (some w77.2) (some x_most))).bind fun b95 => if b95 = true then (((o2 fPair (some w77.2) (some x_most))).bind fun y97 => (fApp w77.1 y97).bind fun x_found => (o1 fTuple (some x_found))) else (o1 fTuple (some w77.1))
set_option maxHeartbeats 4000000 in
theorem ok_turned {P : Program} {w : World} {K : Fg} {mg : Str → Option Value} {base : Heap} (T : Txt K mg) : FnOk P w K mg base CX0 1 T.a_turned T.d_turned ["most", "one"] (PSb K (A2 K m_turned)) := by
  refine T.F_turned.ok sc_turned (fun vs H Q E h => ?_) (fun cdv A0 outer s H vs Q E hr h => ?_)
  · obtain ⟨r, ⟨v_most, v_one, x_most, x_one, rfl, r_most, r_one, hm⟩, q⟩ := h
    rfl
  · obtain ⟨r_fn, ⟨v_most, v_one, x_most, x_one, rfl, r_most, r_one, hm⟩, q⟩ := h
    refine ⟨_, (pss_cons (ps_set (i := 2) sc_turned.nd rfl (by first | exact Or.inl rfl | exact Or.inr rfl) (pe_lst pa_nil)) (pss_cons (ps_set (i := 3) sc_turned.nd rfl (by first | exact Or.inl rfl | exact Or.inr rfl) pe_int) (pss_cons (ps_for PassesOwn.never rfl (piT_K (K := K) rfl (pv 1)) (pg_tup rfl (pgs_cons (pg_name (i := 4) sc_turned.nd rfl (by first | exact Or.inl rfl | exact Or.inr rfl)) (pgs_cons (pg_name (i := 5) sc_turned.nd rfl (by first | exact Or.inl rfl | exact Or.inr rfl)) pgs_nil))) (pss_cons (ps_if (pt_cmpR op_lt (pv 3) (pv 4) (nomark _)) (pss_cons (ps_expr (pe_bm PySem.F.plainAttrs_list PySem.F.slot_list_append PySem.F.type_list_append mt_append (pv 2) (pa_cons (pe_tup (pa_cons (pv 3) (pa_cons (pe_op op_sub (pv 4) pe_int) pa_nil))) pa_nil))) pss_nil) pss_nil) (pss_cons (ps_set (i := 3) sc_turned.nd rfl (by first | exact Or.inl rfl | exact Or.inr rfl) (pe_op op_add (pv 5) pe_int)) pss_nil))) (pss_cons (ps_if (pt_cmpR op_le (pv 3) (pv 0) (nomark _)) (pss_cons (ps_expr (pe_bm PySem.F.plainAttrs_list PySem.F.slot_list_append PySem.F.type_list_append mt_append (pv 2) (pa_cons (pe_tup (pa_cons (pv 3) (pa_cons (pv 0) pa_nil))) pa_nil))) pss_nil) pss_nil) (pss_cons (ps_ret (pe_callTy (tof_K (K := K) rfl) (by rfl) T.n_tuple bb_tuple (pa_cons (pv 2) pa_nil))) pss_nil))))), ?_⟩
    unfold m_turned at hm
    obtain ⟨H0, e0, q⟩ := heapB q
    obtain ⟨G, A, r_most, r_one⟩ : exists G, At G H [] ∧ rp K G v_most x_most ∧ rp K G v_one x_one := ⟨H, At.nil H, r_most, r_one⟩
    refine st_new A fun p_found hp_found A => ?_
    have ne0_found := e0.back hp_found
    replace e0 := e0.trans (Gx.new (o := HO.lst []) hp_found)
    have al_found : Al (rp K G) ([] : List V) ([] : List (Int × Int)) := trivial
    generalize upd _ p_found (.lst []) = H74 at A e0 ⊢
    obtain ⟨x_free, hx, hm⟩ := bnd hm
    refine st_asg ((eb_int (K := K))).own hx A fun v_free G75 H76 g e A r_free => ?_
    replace r_most := Rp.mono g r_most
    replace r_one := Rp.mono g r_one
    replace al_found := al_found.mono fun _ _ => Rp.mono g
    replace e0 := e0.trans e
    obtain ⟨xs77, hx77, hm⟩ := bnd hm
    obtain ⟨w77, hl77, hm⟩ := bnd hm
    refine st_for (M := [p_found]) (i_tup (es_v rfl r_one A.ex (A.hM (by simp)))) hx77 fun J77 HL77 e wk77 => ?_
    replace A := A.grow e
    replace e0 := e0.trans e
    have eM77 : Gx (mns HL77 [p_found]) HL77 := mns_ex
    have gL77 : Gx G75 G75 := Gx.rfl
    have neM77_found : (mns HL77 [p_found]) p_found = none := mns_in (by simp)
    refine fold_run wk77 hl77 (tg_p tg_n tg_n) (fun (s77 : (List (Int × Int)) × Int) (σ : L2.St) (H : Hp) => exists (Gi : Hp) (k_low : Option V) (k_high : Option V) (vs_found : List V) (v_free : V), σ = [some v_most, some v_one, some (.ref p_found), some v_free, k_low, k_high] ∧ Gx H0 H ∧ Gx (mns HL77 [p_found]) H ∧ Gx G75 Gi ∧ At Gi H [(p_found, HO.lst vs_found)] ∧ Al (rp K Gi) vs_found s77.1 ∧ rp K Gi v_free s77.2) (fun s σ H h => ?_) ?_ (fun s77 x77 o77 σ H81 H79 σ2 hxm hf hin e hb => ?_) (fun σ H94 hin => ?_)
    · obtain ⟨Gi, k_low, k_high, vs_found, v_free, rfl, e0, eM77, gL77, A, al_found, r_free⟩ := h
      exact eM77
    · exact ⟨_, _, _, _, _, rfl, e0, eM77, gL77, A, al_found, r_free⟩
    · obtain ⟨G78, k_low, k_high, vs_found, v_free, rfl, e0, eM77, gL77, A, al_found, r_free⟩ := hin
      obtain ⟨_, ⟨v_low, r_low, rfl⟩, ⟨v_high, r_high, rfl⟩⟩ := hb
      replace A := A.grow e
      replace e0 := e0.trans e
      replace eM77 := eM77.trans e
      replace r_most := Rp.mono gL77 r_most
      replace r_one := Rp.mono gL77 r_one
      replace r_low := Im.im A.tx r_low
      replace r_high := Im.im A.tx r_high
      have g := A.gh
      replace A := A.hid
      replace r_most := Rp.mono g r_most
      replace r_one := Rp.mono g r_one
      replace al_found := al_found.mono fun _ _ => Rp.mono g
      replace r_free := Rp.mono g r_free
      replace gL77 := gL77.trans g
      generalize hid _ _ = G82 at *
      have hm := hf
      unfold m_turned_l1 at hm
      obtain ⟨b83, hb83, hm⟩ := bnd hm
      refine st_if (et_test (x_lt (eb_v rfl (Rp.mono A.ex r_free)) (eb_v rfl (Rp.mono A.ex r_low)))) hb83 (fun eb83 H84 e => ?_) (fun eb83 H84 e => ?_)
      · subst eb83
        replace hm := itt hm
        replace A := A.grow e
        replace e0 := e0.trans e
        replace eM77 := eM77.trans e
        obtain ⟨y85, hy85, hm⟩ := bnd hm
        obtain ⟨x_found, hd, hm⟩ := bnd hm
        replace hd := fApps hd
        refine st_app (L1 := []) (slot_ref rfl) ((x_pair (eb_v rfl (Rp.mono A.ex r_free)) (x_sub (eb_v rfl (Rp.mono A.ex r_low)) (eb_int (K := K))))).own hy85 A (by rw [al_found.len]; exact hd.2) fun v_y85 G86 H87 g e A r_y85 => ?_
        replace r_most := Rp.mono g r_most
        replace r_one := Rp.mono g r_one
        replace al_found := al_found.mono fun _ _ => Rp.mono g
        replace r_free := Rp.mono g r_free
        replace r_low := Rp.mono g r_low
        replace r_high := Rp.mono g r_high
        replace gL77 := gL77.trans g
        replace e0 := e0.trans e
        replace eM77 := eM77.trans e
        replace al_found := al_found.app (Al.one r_y85)
        rw [← hd.1] at al_found
        replace e0 := Gx.mutA e0 ne0_found A
        replace eM77 := Gx.mutA eM77 neM77_found A
        generalize upd _ p_found (.lst _) = H88 at A e0 eM77 ⊢
        obtain ⟨x_free, hx, hm⟩ := bnd hm
        refine st_asg ((x_add (eb_v rfl (Rp.mono A.ex r_high)) (eb_int (K := K)))).own hx A fun v_free G89 H90 g e A r_free => ?_
        replace r_most := Rp.mono g r_most
        replace r_one := Rp.mono g r_one
        replace al_found := al_found.mono fun _ _ => Rp.mono g
        replace r_low := Rp.mono g r_low
        replace r_high := Rp.mono g r_high
        replace gL77 := gL77.trans g
        replace e0 := e0.trans e
        replace eM77 := eM77.trans e
        obtain rfl := Option.some.inj hm
        exact ⟨_, _, _, _, _, rfl, e0, eM77, gL77, A, al_found, r_free⟩
      · subst eb83
        replace hm := itf hm
        replace A := A.grow e
        replace e0 := e0.trans e
        replace eM77 := eM77.trans e
        obtain ⟨x_free, hx, hm⟩ := bnd hm
        refine st_asg ((x_add (eb_v rfl (Rp.mono A.ex r_high)) (eb_int (K := K)))).own hx A fun v_free G91 H92 g e A r_free => ?_
        replace r_most := Rp.mono g r_most
        replace r_one := Rp.mono g r_one
        replace al_found := al_found.mono fun _ _ => Rp.mono g
        replace r_low := Rp.mono g r_low
        replace r_high := Rp.mono g r_high
        replace gL77 := gL77.trans g
        replace e0 := e0.trans e
        replace eM77 := eM77.trans e
        obtain rfl := Option.some.inj hm
        exact ⟨_, _, _, _, _, rfl, e0, eM77, gL77, A, al_found, r_free⟩
    · obtain ⟨G93, k_low, k_high, vs_found, v_free, rfl, e0, eM77, gL77, A, al_found, r_free⟩ := hin
      replace r_most := Rp.mono gL77 r_most
      replace r_one := Rp.mono gL77 r_one
      obtain ⟨b95, hb95, hm⟩ := bnd hm
      refine st_if (et_test (x_le (eb_v rfl (Rp.mono A.ex r_free)) (eb_v rfl (Rp.mono A.ex r_most)))) hb95 (fun eb95 H96 e => ?_) (fun eb95 H96 e => ?_)
      · subst eb95
        replace hm := itt hm
        replace A := A.grow e
        replace e0 := e0.trans e
        obtain ⟨y97, hy97, hm⟩ := bnd hm
        obtain ⟨x_found, hd, hm⟩ := bnd hm
        replace hd := fApps hd
        refine st_app (L1 := []) (slot_ref rfl) ((x_pair (eb_v rfl (Rp.mono A.ex r_free)) (eb_v rfl (Rp.mono A.ex r_most)))).own hy97 A (by rw [al_found.len]; exact hd.2) fun v_y97 G98 H99 g e A r_y97 => ?_
        replace r_most := Rp.mono g r_most
        replace r_one := Rp.mono g r_one
        replace al_found := al_found.mono fun _ _ => Rp.mono g
        replace r_free := Rp.mono g r_free
        replace e0 := e0.trans e
        replace al_found := al_found.app (Al.one r_y97)
        rw [← hd.1] at al_found
        replace e0 := Gx.mutA e0 ne0_found A
        generalize upd _ p_found (.lst _) = H100 at A e0 ⊢
        exact sr_b (x_tuple (eb_v rfl (mv_rp A (List.Mem.head _) al_found))) hm fun w H e r => q w H (e0.trans e) r
      · subst eb95
        replace hm := itf hm
        replace A := A.grow e
        replace e0 := e0.trans e
        exact sr_b (x_tuple (eb_v rfl (mv_rp A (List.Mem.head _) al_found))) hm fun w H e r => q w H (e0.trans e) r
/-! less -/
def m_less (x_one : (Tl (Int × Int))) (x_other : (Tl (Int × Int))) : Option (Tl (Int × Int)) := ((oOr (oNot (o1 fTruT (some x_one))) (oNot (o1 fTruT (some x_other))))).bind fun b101 => if b101 = true then (some x_one) else (((o2 fMax (o1 fSnd (o2 fIxT (some x_one) (o1 fNeg (some (1 : Int))))) (o1 fSnd (o2 fIxT (some x_other) (o1 fNeg (some (1 : Int))))))).bind fun x_highest => (o2 m_cut (some x_one) (o2 m_turned (some x_highest) (some x_other))))
set_option maxHeartbeats 4000000 in
theorem ok_less {P : Program} {w : World} {K : Fg} {mg : Str → Option Value} {base : Heap} (T : Txt K mg) : FnOk P w K mg base CX0 2 T.a_less T.d_less ["one", "other"] (PSb K (A2 K m_less)) := by
  refine T.F_less.ok sc_less (fun vs H Q E h => ?_) (fun cdv A0 outer s H vs Q E hr h => ?_)
  · obtain ⟨r, ⟨v_one, v_other, x_one, x_other, rfl, r_one, r_other, hm⟩, q⟩ := h
    rfl
  · obtain ⟨r_fn, ⟨v_one, v_other, x_one, x_other, rfl, r_one, r_other, hm⟩, q⟩ := h
    refine ⟨_, (pss_cons (ps_if (PW.pt (pw_or (pt_not (pt_truth (pv 0) (by intro _; rfl))) (pw_or1 (pt_not (pt_truth (pv 1) (by intro _; rfl)))))) (pss_cons (ps_ret (pv 0)) pss_nil) pss_nil) (pss_cons (ps_set (i := 2) sc_less.nd rfl (by first | exact Or.inl rfl | exact Or.inr rfl) (pe_callB (call_max2 rfl) (by rfl) T.n_max bb_max (pa_cons (pe_ix (ixT_K (K := K) rfl) (pe_ix (ixT_K (K := K) rfl) (pv 0) (pe_un un_neg pe_int) (fun _ _ => rfl)) pe_int (fun _ _ => rfl)) (pa_cons (pe_ix (ixT_K (K := K) rfl) (pe_ix (ixT_K (K := K) rfl) (pv 1) (pe_un un_neg pe_int) (fun _ _ => rfl)) pe_int (fun _ _ => rfl)) pa_nil)))) (pss_cons (ps_ret (pe_call (ok_cut T) (hr.mono (by decide)) (by rfl) T.g_cut T.F_cut.kp T.b_cut .nil pass0 (pa_cons (pv 0) (pa_cons (pe_call (ok_turned T) (hr.mono (by decide)) (by rfl) T.g_turned T.F_turned.kp T.b_turned .nil pass0 (pa_cons (pv 2) (pa_cons (pv 1) pa_nil))) pa_nil)))) pss_nil))), ?_⟩
    unfold m_less at hm
    obtain ⟨H0, e0, q⟩ := heapB q
    obtain ⟨G, A, r_one, r_other⟩ : exists G, At G H [] ∧ rp K G v_one x_one ∧ rp K G v_other x_other := ⟨H, At.nil H, r_one, r_other⟩
    obtain ⟨b101, hb101, hm⟩ := bnd hm
    refine st_if (et_or (et_not (t_truT (eb_v rfl (Rp.mono A.ex r_one)))) (et_not (t_truT (eb_v rfl (Rp.mono A.ex r_other))))) hb101 (fun eb101 H102 e => ?_) (fun eb101 H102 e => ?_)
    · subst eb101
      replace hm := itt hm
      replace A := A.grow e
      replace e0 := e0.trans e
      exact sr_b (eb_v rfl (Rp.mono A.ex r_one)) hm fun w H e r => q w H (e0.trans e) r
    · subst eb101
      replace hm := itf hm
      replace A := A.grow e
      replace e0 := e0.trans e
      obtain ⟨x_highest, hx, hm⟩ := bnd hm
      refine st_asg ((x_max (x_snd (x_ixT (eb_v rfl (Rp.mono A.ex r_one)) (x_neg (eb_int (K := K))))) (x_snd (x_ixT (eb_v rfl (Rp.mono A.ex r_other)) (x_neg (eb_int (K := K))))))).own hx A fun v_highest G103 H104 g e A r_highest => ?_
      replace r_one := Rp.mono g r_one
      replace r_other := Rp.mono g r_other
      replace e0 := e0.trans e
      exact sr_b (eb_call (em2 (eb_v rfl (Rp.mono A.ex r_one)) (eb_call (em2 (eb_v rfl (Rp.mono A.ex r_highest)) (eb_v rfl (Rp.mono A.ex r_other)))))) hm fun w H e r => q w H (e0.trans e) r
/-! has -/
def m_has_c1 (z109_one : (Tl (Int × Int))) (z109_number : Int) (s109 : Int × Int) : Option Bool := (o2 fLt (some s109.1) (some s109.2))
def m_has_l1 (z109_one : (Tl (Int × Int))) (z109_number : Int) (s109 : Int × Int) : Option (Int × Int) := ((o2 fDiv (o2 fAdd (some s109.1) (some s109.2)) (some (2 : Int)))).bind fun x_middle => ((o2 fLt (o1 fSnd (o2 fIxT (some z109_one) (some x_middle))) (some z109_number))).bind fun b120 => if b120 = true then (((o2 fAdd (some x_middle) (some (1 : Int)))).bind fun x_begin => some (x_begin, s109.2)) else (((some x_middle)).bind fun x_end => some (s109.1, x_end))
def m_has (x_one : (Tl (Int × Int))) (x_number : Int) : Option Bool := ((some (0 : Int))).bind fun x_begin => ((o1 fLenT (some x_one))).bind fun x_end => (whileO (m_has_c1 x_one x_number) (m_has_l1 x_one x_number) (x_one.l.length + 1) (x_begin, x_end)).bind fun w109 => (oAnd (o2 fLt (some w109.1) (o1 fLenT (some x_one))) (o2 fLe (o1 fFst (o2 fIxT (some x_one) (some w109.1))) (some x_number)))
set_option maxHeartbeats 4000000 in
theorem ok_has {P : Program} {w : World} {K : Fg} {mg : Str → Option Value} {base : Heap} (T : Txt K mg) : FnOk P w K mg base CX0 1 T.a_has T.d_has ["one", "number"] (PSb K (A2 K m_has)) := by
  refine T.F_has.ok sc_has (fun vs H Q E h => ?_) (fun cdv A0 outer s H vs Q E hr h => ?_)
  · obtain ⟨r, ⟨v_one, v_number, x_one, x_number, rfl, r_one, r_number, hm⟩, q⟩ := h
    rfl
  · obtain ⟨r_fn, ⟨v_one, v_number, x_one, x_number, rfl, r_one, r_number, hm⟩, q⟩ := h
    refine ⟨_, (pss_cons (ps_set (i := 2) sc_has.nd rfl (by first | exact Or.inl rfl | exact Or.inr rfl) pe_int) (pss_cons (ps_set (i := 3) sc_has.nd rfl (by first | exact Or.inl rfl | exact Or.inr rfl) (pe_callB (len_K (K := K) rfl) (by rfl) T.n_len bb_len (pa_cons (pv 0) pa_nil))) (pss_cons (ps_while PassesOwn.never (pt_cmpR op_lt (pv 2) (pv 3) (nomark _)) (pss_cons (ps_set (i := 4) sc_has.nd rfl (by first | exact Or.inl rfl | exact Or.inr rfl) (pe_op op_fdiv (pe_op op_add (pv 2) (pv 3)) pe_int)) (pss_cons (ps_if (pt_cmpR op_lt (pe_ix (ixT_K (K := K) rfl) (pe_ix (ixT_K (K := K) rfl) (pv 0) (pv 4) (fun _ _ => rfl)) pe_int (fun _ _ => rfl)) (pv 1) (nomark _)) (pss_cons (ps_set (i := 2) sc_has.nd rfl (by first | exact Or.inl rfl | exact Or.inr rfl) (pe_op op_add (pv 4) pe_int)) pss_nil) (pss_cons (ps_set (i := 3) sc_has.nd rfl (by first | exact Or.inl rfl | exact Or.inr rfl) (pv 4)) pss_nil)) pss_nil))) (pss_cons (ps_ret (pe_and (pe_cmpR op_lt (pv 2) (pe_callB (len_K (K := K) rfl) (by rfl) T.n_len bb_len (pa_cons (pv 0) pa_nil)) (nomark _)) (pe_one (pe_cmpR op_le (pe_ix (ixT_K (K := K) rfl) (pe_ix (ixT_K (K := K) rfl) (pv 0) (pv 2) (fun _ _ => rfl)) pe_int (fun _ _ => rfl)) (pv 1) (nomark _))))) pss_nil)))), ?_⟩
    unfold m_has at hm
    obtain ⟨H0, e0, q⟩ := heapB q
    obtain ⟨G, A, r_one, r_number⟩ : exists G, At G H [] ∧ rp K G v_one x_one ∧ rp K G v_number x_number := ⟨H, At.nil H, r_one, r_number⟩
    obtain ⟨x_begin, hx, hm⟩ := bnd hm
    refine st_asg ((eb_int (K := K))).own hx A fun v_begin G105 H106 g e A r_begin => ?_
    replace r_one := Rp.mono g r_one
    replace r_number := Rp.mono g r_number
    replace e0 := e0.trans e
    obtain ⟨x_end, hx, hm⟩ := bnd hm
    refine st_asg ((x_lenT (eb_v rfl (Rp.mono A.ex r_one)))).own hx A fun v_end G107 H108 g e A r_end => ?_
    replace r_one := Rp.mono g r_one
    replace r_number := Rp.mono g r_number
    replace r_begin := Rp.mono g r_begin
    replace e0 := e0.trans e
    obtain ⟨w109, hl109, hm⟩ := bnd hm
    have gL109 : Gx G107 G107 := Gx.rfl
    refine st_whileO hl109 (fun (s109 : Int × Int) (σ : L2.St) (H : Hp) => exists (Gi : Hp) (k_middle : Option V) (v_begin : V) (v_end : V), σ = [some v_one, some v_number, some v_begin, some v_end, k_middle] ∧ Gx H0 H ∧ Gx G107 Gi ∧ At Gi H [] ∧ rp K Gi v_begin s109.1 ∧ rp K Gi v_end s109.2) ?_ (fun s109 σ H111 hin => ?_) (fun s109 o109 σ H114 H113 hcm hf hin e => ?_) (fun σ H117 H116 hin e => ?_)
    · exact ⟨_, _, _, _, rfl, e0, gL109, A, r_begin, r_end⟩
    · obtain ⟨G110, k_middle, v_begin, v_end, rfl, e0, gL109, A, r_begin, r_end⟩ := hin
      replace r_one := Rp.mono gL109 r_one
      replace r_number := Rp.mono gL109 r_number
      show EvT _ _ _ (m_has_c1 x_one x_number s109)
      unfold m_has_c1
      exact (et_test (x_lt (eb_v rfl (Rp.mono A.ex r_begin)) (eb_v rfl (Rp.mono A.ex r_end))))
    · obtain ⟨G112, k_middle, v_begin, v_end, rfl, e0, gL109, A, r_begin, r_end⟩ := hin
      replace A := A.grow e
      replace e0 := e0.trans e
      replace r_one := Rp.mono gL109 r_one
      replace r_number := Rp.mono gL109 r_number
      have hm := hf
      unfold m_has_l1 at hm
      obtain ⟨x_middle, hx, hm⟩ := bnd hm
      refine st_asg ((x_div (x_add (eb_v rfl (Rp.mono A.ex r_begin)) (eb_v rfl (Rp.mono A.ex r_end))) (eb_int (K := K)))).own hx A fun v_middle G118 H119 g e A r_middle => ?_
      replace r_one := Rp.mono g r_one
      replace r_number := Rp.mono g r_number
      replace r_begin := Rp.mono g r_begin
      replace r_end := Rp.mono g r_end
      replace gL109 := gL109.trans g
      replace e0 := e0.trans e
      obtain ⟨b120, hb120, hm⟩ := bnd hm
      refine st_if (et_test (x_lt (x_snd (x_ixT (eb_v rfl (Rp.mono A.ex r_one)) (eb_v rfl (Rp.mono A.ex r_middle)))) (eb_v rfl (Rp.mono A.ex r_number)))) hb120 (fun eb120 H121 e => ?_) (fun eb120 H121 e => ?_)
      · subst eb120
        replace hm := itt hm
        replace A := A.grow e
        replace e0 := e0.trans e
        obtain ⟨x_begin, hx, hm⟩ := bnd hm
        refine st_asg ((x_add (eb_v rfl (Rp.mono A.ex r_middle)) (eb_int (K := K)))).own hx A fun v_begin G122 H123 g e A r_begin => ?_
        replace r_one := Rp.mono g r_one
        replace r_number := Rp.mono g r_number
        replace r_end := Rp.mono g r_end
        replace r_middle := Rp.mono g r_middle
        replace gL109 := gL109.trans g
        replace e0 := e0.trans e
        obtain rfl := Option.some.inj hm
        exact ⟨_, _, _, _, rfl, e0, gL109, A, r_begin, r_end⟩
      · subst eb120
        replace hm := itf hm
        replace A := A.grow e
        replace e0 := e0.trans e
        obtain ⟨x_end, hx, hm⟩ := bnd hm
        refine st_asg ((eb_v rfl (Rp.mono A.ex r_middle))).own hx A fun v_end G124 H125 g e A r_end => ?_
        replace r_one := Rp.mono g r_one
        replace r_number := Rp.mono g r_number
        replace r_begin := Rp.mono g r_begin
        replace r_middle := Rp.mono g r_middle
        replace gL109 := gL109.trans g
        replace e0 := e0.trans e
        obtain rfl := Option.some.inj hm
        exact ⟨_, _, _, _, rfl, e0, gL109, A, r_begin, r_end⟩
    · obtain ⟨G115, k_middle, v_begin, v_end, rfl, e0, gL109, A, r_begin, r_end⟩ := hin
      replace A := A.grow e
      replace e0 := e0.trans e
      replace r_one := Rp.mono gL109 r_one
      replace r_number := Rp.mono gL109 r_number
      exact sr_b (eb_and (x_lt (eb_v rfl (Rp.mono A.ex r_begin)) (x_lenT (eb_v rfl (Rp.mono A.ex r_one)))) (x_le (x_fst (x_ixT (eb_v rfl (Rp.mono A.ex r_one)) (eb_v rfl (Rp.mono A.ex r_begin)))) (eb_v rfl (Rp.mono A.ex r_number)))) hm fun w H e r => q w H (e0.trans e) r
/-! size -/
def m_size (x_one : (Tl (Int × Int))) : Option Int := (o1 fSum (oComp (fun (y126 : (Int × Int)) => (some true)) (fun (y126 : (Int × Int)) => (o2 fAdd (o2 fSub (some y126.2) (some y126.1)) (some (1 : Int)))) (((some x_one)).map Tl.l)))
set_option maxHeartbeats 4000000 in
theorem ok_size {P : Program} {w : World} {K : Fg} {mg : Str → Option Value} {base : Heap} (T : Txt K mg) : FnOk P w K mg base CX0 1 T.a_size T.d_size ["one"] (PSb K (A1 K m_size)) := by
  refine T.F_size.ok sc_size (fun vs H Q E h => ?_) (fun cdv A0 outer s H vs Q E hr h => ?_)
  · obtain ⟨r, ⟨v_one, x_one, rfl, r_one, hm⟩, q⟩ := h
    rfl
  · obtain ⟨r_fn, ⟨v_one, x_one, rfl, r_one, hm⟩, q⟩ := h
    refine ⟨_, (pss_cons (ps_ret (pe_callB (cr_sum rfl) (by rfl) T.n_sum bb_sum (pa_cons (pe_lc (own := [("low", 1), ("high", 2)]) (g := (gTup K 2 (gCons (gName 1) (gCons (gName 2) gNil)))) rfl sc_size.nd (piT_K (K := K) rfl (pv 0)) (blkOk_by (N := ["one", "low", "high"]) (sc := defScope s_size) (by decide +kernel)) (fun _ _ _ _ _ => by exact (pg_tup rfl (pgs_cons (pg_name (i := 1) sc_size.nd rfl (by first | exact Or.inl rfl | exact Or.inr rfl)) (pgs_cons (pg_name (i := 2) sc_size.nd rfl (by first | exact Or.inl rfl | exact Or.inr rfl)) pgs_nil)))) (fun _ _ _ _ _ => by exact pts_nil) (fun _ _ _ _ _ => by exact (pe_op op_add (pe_op op_sub (pv 2) (pv 1)) pe_int))) pa_nil))) pss_nil), ?_⟩
    unfold m_size at hm
    obtain ⟨H0, e0, q⟩ := heapB q
    obtain ⟨G, A, r_one⟩ : exists G, At G H [] ∧ rp K G v_one x_one := ⟨H, At.nil H, r_one⟩
    exact sr_b (x_sum ((x_lc (i_tup (es_b (eb_v rfl (Rp.mono A.ex r_one)))) (tg_p tg_n tg_n) (bi_p (bi_n (by decide)) (bi_n (by decide))) (fun y126 σc Hc gh126 hb126 => by obtain ⟨_, ⟨c126v_low, c126r_low, rfl⟩, ⟨c126v_high, c126r_high, rfl⟩⟩ := hb126; exact t_yes) (fun y126 σc Hc gh126 hb126 => by obtain ⟨_, ⟨c126v_low, c126r_low, rfl⟩, ⟨c126v_high, c126r_high, rfl⟩⟩ := hb126; exact (x_add (x_sub (eb_v rfl c126r_high) (eb_v rfl c126r_low)) (eb_int (K := K)))))).b) hm fun w H e r => q w H (e0.trans e) r
/-! least -/
def m_least (x_one : (Tl (Int × Int))) : Option (Option Int) := (oIf (o1 fTruT (some x_one)) (((o1 fFst (o2 fIxT (some x_one) (some (0 : Int))))).map some) (some (none : (Option Int))))
set_option maxHeartbeats 4000000 in
theorem ok_least {P : Program} {w : World} {K : Fg} {mg : Str → Option Value} {base : Heap} (T : Txt K mg) : FnOk P w K mg base CX0 1 T.a_least T.d_least ["one"] (PSb K (A1 K m_least)) := by
  refine T.F_least.ok sc_least (fun vs H Q E h => ?_) (fun cdv A0 outer s H vs Q E hr h => ?_)
  · obtain ⟨r, ⟨v_one, x_one, rfl, r_one, hm⟩, q⟩ := h
    rfl
  · obtain ⟨r_fn, ⟨v_one, x_one, rfl, r_one, hm⟩, q⟩ := h
    refine ⟨_, (pss_cons (ps_ret (pe_ifExp (pt_truth (pv 0) (by intro _; rfl)) (pe_ix (ixT_K (K := K) rfl) (pe_ix (ixT_K (K := K) rfl) (pv 0) pe_int (fun _ _ => rfl)) pe_int (fun _ _ => rfl)) pe_non)) pss_nil), ?_⟩
    unfold m_least at hm
    obtain ⟨H0, e0, q⟩ := heapB q
    obtain ⟨G, A, r_one⟩ : exists G, At G H [] ∧ rp K G v_one x_one := ⟨H, At.nil H, r_one⟩
    exact sr_b (eb_if (t_truT (eb_v rfl (Rp.mono A.ex r_one))) (x_some (x_fst (x_ixT (eb_v rfl (Rp.mono A.ex r_one)) (eb_int (K := K))))) x_none) hm fun w H e r => q w H (e0.trans e) r
/-! parts -/
def m_parts_l2 (s135 : (List Int)) (x135 : (Int × Int)) : Option (List Int) := ((some x135.1)).bind fun y141 => (fApp s135 y141).bind fun x_begins => ((o2 fAdd (some x135.2) (some (1 : Int)))).bind fun y145 => (fApp x_begins y145).bind fun x_begins => some x_begins
def m_parts_l1 (s129 : (List Int)) (x129 : (Tl (Int × Int))) : Option (List Int) := ((((some x129)).map Tl.l)).bind fun xs135 => (foldO m_parts_l2 s129 xs135).bind fun w135 => some w135
def m_parts (x_most : Int) (x_some : (List (Tl (Int × Int)))) : Option (List (Int × Int)) := ((o1 szOk (o2 fCons (some (0 : Int)) (o2 fCons (o2 fAdd (some x_most) (some (1 : Int))) (some ([] : List Int)))))).bind fun x_begins => ((some x_some)).bind fun xs129 => (foldO m_parts_l1 x_begins xs129).bind fun w129 => ((o1 fSortSet (some w129))).bind fun x_rising => (oComp (fun (y155 : (Int × Int)) => (some true)) (fun (y155 : (Int × Int)) => (o2 fPair (some y155.1) (o2 fSub (some y155.2) (some (1 : Int))))) (o2 fZip (some x_rising) (o3 fCut (some x_rising) (((some (1 : Int))).map some) (some none))))
set_option maxHeartbeats 4000000 in
theorem ok_parts {P : Program} {w : World} {K : Fg} {mg : Str → Option Value} {base : Heap} (T : Txt K mg) : FnOk P w K mg base CX0 1 T.a_parts T.d_parts ["most", "some"] (PSn K (A2 K m_parts)) := by
  refine T.F_parts.ok sc_parts (fun vs H Q E h => ?_) (fun cdv A0 outer s H vs Q E hr h => ?_)
  · obtain ⟨r, ⟨v_most, v_some, x_most, x_some, rfl, r_most, r_some, hm⟩, q⟩ := h
    rfl
  · obtain ⟨r_fn, ⟨v_most, v_some, x_most, x_some, rfl, r_most, r_some, hm⟩, q⟩ := h
    refine ⟨_, (pss_cons (ps_set (i := 2) sc_parts.nd rfl (by first | exact Or.inl rfl | exact Or.inr rfl) (pe_lst (pa_cons pe_int (pa_cons (pe_op op_add (pv 0) pe_int) pa_nil)))) (pss_cons (ps_for PassesOwn.never rfl (piL_K (K := K) rfl (pv 1)) (pg_name (i := 3) sc_parts.nd rfl (by first | exact Or.inl rfl | exact Or.inr rfl)) (pss_cons (ps_for PassesOwn.never rfl (piT_K (K := K) rfl (pv 3)) (pg_tup rfl (pgs_cons (pg_name (i := 4) sc_parts.nd rfl (by first | exact Or.inl rfl | exact Or.inr rfl)) (pgs_cons (pg_name (i := 5) sc_parts.nd rfl (by first | exact Or.inl rfl | exact Or.inr rfl)) pgs_nil))) (pss_cons (ps_expr (pe_bm PySem.F.plainAttrs_list PySem.F.slot_list_append PySem.F.type_list_append mt_append (pv 2) (pa_cons (pv 4) pa_nil))) (pss_cons (ps_expr (pe_bm PySem.F.plainAttrs_list PySem.F.slot_list_append PySem.F.type_list_append mt_append (pv 2) (pa_cons (pe_op op_add (pv 5) pe_int) pa_nil))) pss_nil))) pss_nil)) (pss_cons (ps_set (i := 6) sc_parts.nd rfl (by first | exact Or.inl rfl | exact Or.inr rfl) (pe_callB (cr_sortS rfl) (by rfl) T.n_sorted bb_sorted (pa_cons (pe_callTy (cr_setL rfl) (by rfl) T.n_set bb_set (pa_cons (pv 2) pa_nil)) pa_nil))) (pss_cons (ps_ret (pe_lc (own := [("low", 4), ("behind", 7)]) (g := (gTup K 2 (gCons (gName 4) (gCons (gName 7) gNil)))) rfl sc_parts.nd (pi_zip (by rfl) T.n_zip (pa_cons (pv 6) (pa_cons (pe_slice (slL_K (K := K) rfl) (pv 6) (po_some pe_int) po_none) pa_nil))) (blkOk_by (N := ["most", "some", "begins", "one", "low", "high", "rising", "behind"]) (sc := defScope s_parts) (by decide +kernel)) (fun _ _ _ _ _ => by exact (pg_tup rfl (pgs_cons (pg_name (i := 4) sc_parts.nd rfl (by first | exact Or.inl rfl | exact Or.inr rfl)) (pgs_cons (pg_name (i := 7) sc_parts.nd rfl (by first | exact Or.inl rfl | exact Or.inr rfl)) pgs_nil)))) (fun _ _ _ _ _ => by exact pts_nil) (fun _ _ _ _ _ => by exact (pe_tup (pa_cons (pv 4) (pa_cons (pe_op op_sub (pv 7) pe_int) pa_nil)))))) pss_nil)))), ?_⟩
    unfold m_parts at hm
    obtain ⟨H0, e0, q⟩ := heapN q
    obtain ⟨G, A, r_most, r_some⟩ : exists G, At G H [] ∧ rp K G v_most x_most ∧ rp K G v_some x_some := ⟨H, At.nil H, r_most, r_some⟩
    obtain ⟨x_begins, hx, hm⟩ := bnd hm
    refine st_newM (x_lst (l_cons (eb_int (K := K)) (l_cons (x_add (eb_v rfl (Rp.mono A.ex r_most)) (eb_int (K := K))) (l_nil (K := K))))) hx A fun p_begins vs_begins G127 H128 hp_begins g e A al_begins => ?_
    have ne0_begins := e0.back hp_begins
    replace r_most := Rp.mono g r_most
    replace r_some := Rp.mono g r_some
    replace e0 := e0.trans e
    obtain ⟨xs129, hx129, hm⟩ := bnd hm
    obtain ⟨w129, hl129, hm⟩ := bnd hm
    refine st_for (M := [p_begins]) (i_list (es_v rfl r_some A.ex (A.hM (by simp)))) hx129 fun J129 HL129 e wk129 => ?_
    replace A := A.grow e
    replace e0 := e0.trans e
    have eM129 : Gx (mns HL129 [p_begins]) HL129 := mns_ex
    have gL129 : Gx G127 G127 := Gx.rfl
    have neM129_begins : (mns HL129 [p_begins]) p_begins = none := mns_in (by simp)
    refine fold_run wk129 hl129 tg_n (fun (s129 : (List Int)) (σ : L2.St) (H : Hp) => exists (Gi : Hp) (k_one : Option V) (k_low : Option V) (k_high : Option V) (vs_begins : List V), σ = [some v_most, some v_some, some (.ref p_begins), k_one, k_low, k_high, none, none] ∧ Gx H0 H ∧ Gx (mns HL129 [p_begins]) H ∧ Gx G127 Gi ∧ At Gi H [(p_begins, HO.lst vs_begins)] ∧ Al (rp K Gi) vs_begins s129) (fun s σ H h => ?_) ?_ (fun s129 x129 o129 σ H133 H131 σ2 hxm hf hin e hb => ?_) (fun σ H152 hin => ?_)
    · obtain ⟨Gi, k_one, k_low, k_high, vs_begins, rfl, e0, eM129, gL129, A, al_begins⟩ := h
      exact eM129
    · exact ⟨_, _, _, _, _, rfl, e0, eM129, gL129, A, al_begins⟩
    · obtain ⟨G130, k_one, k_low, k_high, vs_begins, rfl, e0, eM129, gL129, A, al_begins⟩ := hin
      obtain ⟨v_one, r_one, rfl⟩ := hb
      replace A := A.grow e
      replace e0 := e0.trans e
      replace eM129 := eM129.trans e
      replace r_most := Rp.mono gL129 r_most
      replace r_some := Rp.mono gL129 r_some
      replace r_one := Im.im A.tx r_one
      have g := A.gh
      replace A := A.hid
      replace r_most := Rp.mono g r_most
      replace r_some := Rp.mono g r_some
      replace al_begins := al_begins.mono fun _ _ => Rp.mono g
      replace gL129 := gL129.trans g
      generalize hid _ _ = G134 at *
      have hm := hf
      unfold m_parts_l1 at hm
      obtain ⟨xs135, hx135, hm⟩ := bnd hm
      obtain ⟨w135, hl135, hm⟩ := bnd hm
      refine st_for (M := [p_begins]) (i_tup (es_v rfl r_one A.ex (A.hM (by simp)))) hx135 fun J135 HL135 e wk135 => ?_
      replace A := A.grow e
      replace e0 := e0.trans e
      replace eM129 := eM129.trans e
      have eM135 : Gx (mns HL135 [p_begins]) HL135 := mns_ex
      have gL135 : Gx G134 G134 := Gx.rfl
      have neM135_begins : (mns HL135 [p_begins]) p_begins = none := mns_in (by simp)
      refine fold_run wk135 hl135 (tg_p tg_n tg_n) (fun (s135 : (List Int)) (σ : L2.St) (H : Hp) => exists (Gi : Hp) (k_low : Option V) (k_high : Option V) (vs_begins : List V), σ = [some v_most, some v_some, some (.ref p_begins), some v_one, k_low, k_high, none, none] ∧ Gx H0 H ∧ Gx (mns HL129 [p_begins]) H ∧ Gx (mns HL135 [p_begins]) H ∧ Gx G127 Gi ∧ Gx G134 Gi ∧ At Gi H [(p_begins, HO.lst vs_begins)] ∧ Al (rp K Gi) vs_begins s135) (fun s σ H h => ?_) ?_ (fun s135 x135 o135 σ H139 H137 σ2 hxm hf hin e hb => ?_) (fun σ H150 hin => ?_)
      · obtain ⟨Gi, k_low, k_high, vs_begins, rfl, e0, eM129, eM135, gL129, gL135, A, al_begins⟩ := h
        exact eM135
      · exact ⟨_, _, _, _, rfl, e0, eM129, eM135, gL129, gL135, A, al_begins⟩
      · obtain ⟨G136, k_low, k_high, vs_begins, rfl, e0, eM129, eM135, gL129, gL135, A, al_begins⟩ := hin
        obtain ⟨_, ⟨v_low, r_low, rfl⟩, ⟨v_high, r_high, rfl⟩⟩ := hb
        replace A := A.grow e
        replace e0 := e0.trans e
        replace eM129 := eM129.trans e
        replace eM135 := eM135.trans e
        replace r_most := Rp.mono gL135 r_most
        replace r_some := Rp.mono gL135 r_some
        replace r_one := Rp.mono gL135 r_one
        replace r_low := Im.im A.tx r_low
        replace r_high := Im.im A.tx r_high
        have g := A.gh
        replace A := A.hid
        replace r_most := Rp.mono g r_most
        replace r_some := Rp.mono g r_some
        replace al_begins := al_begins.mono fun _ _ => Rp.mono g
        replace r_one := Rp.mono g r_one
        replace gL129 := gL129.trans g
        replace gL135 := gL135.trans g
        generalize hid _ _ = G140 at *
        have hm := hf
        unfold m_parts_l2 at hm
        obtain ⟨y141, hy141, hm⟩ := bnd hm
        obtain ⟨x_begins, hd, hm⟩ := bnd hm
        replace hd := fApps hd
        refine st_app (L1 := []) (slot_ref rfl) ((eb_v rfl (Rp.mono A.ex r_low))).own hy141 A (by rw [al_begins.len]; exact hd.2) fun v_y141 G142 H143 g e A r_y141 => ?_
        replace r_most := Rp.mono g r_most
        replace r_some := Rp.mono g r_some
        replace al_begins := al_begins.mono fun _ _ => Rp.mono g
        replace r_one := Rp.mono g r_one
        replace r_low := Rp.mono g r_low
        replace r_high := Rp.mono g r_high
        replace gL129 := gL129.trans g
        replace gL135 := gL135.trans g
        replace e0 := e0.trans e
        replace eM129 := eM129.trans e
        replace eM135 := eM135.trans e
        replace al_begins := al_begins.app (Al.one r_y141)
        rw [← hd.1] at al_begins
        replace e0 := Gx.mutA e0 ne0_begins A
        replace eM129 := Gx.mutA eM129 neM129_begins A
        replace eM135 := Gx.mutA eM135 neM135_begins A
        generalize upd _ p_begins (.lst _) = H144 at A e0 eM129 eM135 ⊢
        obtain ⟨y145, hy145, hm⟩ := bnd hm
        obtain ⟨x_begins, hd, hm⟩ := bnd hm
        replace hd := fApps hd
        refine st_app (L1 := []) (slot_ref rfl) ((x_add (eb_v rfl (Rp.mono A.ex r_high)) (eb_int (K := K)))).own hy145 A (by rw [al_begins.len]; exact hd.2) fun v_y145 G146 H147 g e A r_y145 => ?_
        replace r_most := Rp.mono g r_most
        replace r_some := Rp.mono g r_some
        replace al_begins := al_begins.mono fun _ _ => Rp.mono g
        replace r_one := Rp.mono g r_one
        replace r_low := Rp.mono g r_low
        replace r_high := Rp.mono g r_high
        replace gL129 := gL129.trans g
        replace gL135 := gL135.trans g
        replace e0 := e0.trans e
        replace eM129 := eM129.trans e
        replace eM135 := eM135.trans e
        replace al_begins := al_begins.app (Al.one r_y145)
        rw [← hd.1] at al_begins
        replace e0 := Gx.mutA e0 ne0_begins A
        replace eM129 := Gx.mutA eM129 neM129_begins A
        replace eM135 := Gx.mutA eM135 neM135_begins A
        generalize upd _ p_begins (.lst _) = H148 at A e0 eM129 eM135 ⊢
        obtain rfl := Option.some.inj hm
        exact ⟨_, _, _, _, rfl, e0, eM129, eM135, gL129, gL135, A, al_begins⟩
      · obtain ⟨G149, k_low, k_high, vs_begins, rfl, e0, eM129, eM135, gL129, gL135, A, al_begins⟩ := hin
        replace r_most := Rp.mono gL135 r_most
        replace r_some := Rp.mono gL135 r_some
        replace r_one := Rp.mono gL135 r_one
        obtain rfl := Option.some.inj hm
        exact ⟨_, _, _, _, _, rfl, e0, eM129, gL129, A, al_begins⟩
    · obtain ⟨G151, k_one, k_low, k_high, vs_begins, rfl, e0, eM129, gL129, A, al_begins⟩ := hin
      replace r_most := Rp.mono gL129 r_most
      replace r_some := Rp.mono gL129 r_some
      obtain ⟨x_rising, hx, hm⟩ := bnd hm
      refine st_asg ((x_sortSet (eb_v rfl (mv_rp A (List.Mem.head _) al_begins)))).own hx A fun v_rising G153 H154 g e A r_rising => ?_
      replace r_most := Rp.mono g r_most
      replace r_some := Rp.mono g r_some
      replace al_begins := al_begins.mono fun _ _ => Rp.mono g
      replace e0 := e0.trans e
      exact sr_n (x_lc (i_zip (es_b (eb_v rfl (Rp.mono A.ex r_rising))) (es_b ((x_cut (eb_v rfl (Rp.mono A.ex r_rising)) (ep_some (eb_int (K := K))) ep_none)).b)) (tg_p tg_n tg_n) (bi_p (bi_n (by decide)) (bi_n (by decide))) (fun y155 σc Hc gh155 hb155 => by obtain ⟨_, ⟨c155v_low, c155r_low, rfl⟩, ⟨c155v_behind, c155r_behind, rfl⟩⟩ := hb155; exact t_yes) (fun y155 σc Hc gh155 hb155 => by obtain ⟨_, ⟨c155v_low, c155r_low, rfl⟩, ⟨c155v_behind, c155r_behind, rfl⟩⟩ := hb155; exact (x_pair (eb_v rfl c155r_low) (x_sub (eb_v rfl c155r_behind) (eb_int (K := K)))))) hm fun p ws H hp e h r => q p ws H (e0.back hp) (e0.trans e) h r
/-! _law_mixed -/
def m_law_mixed (x_law_cell : Int) (x_law_k : Int) : Option Int := ((o2 fMod (o2 fAdd (o2 fAdd (o2 fMul (some x_law_cell) (some (48271 : Int))) (o2 fMul (some (7919 : Int)) (some x_law_k))) (some (11 : Int))) (some (1000003 : Int)))).bind fun x_law_number => (o2 fMod (o2 fMul (o2 fMod (o2 fMul (some x_law_number) (some x_law_number)) (some (1000003 : Int))) (some x_law_number)) (some (1000003 : Int)))
set_option maxHeartbeats 4000000 in
theorem ok_law_mixed {P : Program} {w : World} {K : Fg} {mg : Str → Option Value} {base : Heap} (T : Txt K mg) : FnOk P w K mg base CX0 1 T.a_law_mixed T.d_law_mixed ["_law_cell", "_law_k"] (PSb K (A2 K m_law_mixed)) := by
  refine T.F_law_mixed.ok sc_law_mixed (fun vs H Q E h => ?_) (fun cdv A0 outer s H vs Q E hr h => ?_)
  · obtain ⟨r, ⟨v_law_cell, v_law_k, x_law_cell, x_law_k, rfl, r_law_cell, r_law_k, hm⟩, q⟩ := h
    rfl
  · obtain ⟨r_fn, ⟨v_law_cell, v_law_k, x_law_cell, x_law_k, rfl, r_law_cell, r_law_k, hm⟩, q⟩ := h
    refine ⟨_, (pss_cons (ps_set (i := 2) sc_law_mixed.nd rfl (by first | exact Or.inl rfl | exact Or.inr rfl) (pe_op op_mod (pe_op op_add (pe_op op_add (pe_op op_mul (pv 0) pe_int) (pe_op op_mul pe_int (pv 1))) pe_int) pe_int)) (pss_cons (ps_ret (pe_op op_mod (pe_op op_mul (pe_op op_mod (pe_op op_mul (pv 2) (pv 2)) pe_int) (pv 2)) pe_int)) pss_nil)), ?_⟩
    unfold m_law_mixed at hm
    obtain ⟨H0, e0, q⟩ := heapB q
    obtain ⟨G, A, r_law_cell, r_law_k⟩ : exists G, At G H [] ∧ rp K G v_law_cell x_law_cell ∧ rp K G v_law_k x_law_k := ⟨H, At.nil H, r_law_cell, r_law_k⟩
    obtain ⟨x_law_number, hx, hm⟩ := bnd hm
    refine st_asg ((x_mod (x_add (x_add (x_mul (eb_v rfl (Rp.mono A.ex r_law_cell)) (eb_int (K := K))) (x_mul (eb_int (K := K)) (eb_v rfl (Rp.mono A.ex r_law_k)))) (eb_int (K := K))) (eb_int (K := K)))).own hx A fun v_law_number G156 H157 g e A r_law_number => ?_
    replace r_law_cell := Rp.mono g r_law_cell
    replace r_law_k := Rp.mono g r_law_k
    replace e0 := e0.trans e
    exact sr_b (x_mod (x_mul (x_mod (x_mul (eb_v rfl (Rp.mono A.ex r_law_number)) (eb_v rfl (Rp.mono A.ex r_law_number))) (eb_int (K := K))) (eb_v rfl (Rp.mono A.ex r_law_number))) (eb_int (K := K))) hm fun w H e r => q w H (e0.trans e) r
/-! _law_great -/
def m_law_great (x_law_cell : Int) (x_law_k : Int) : Option Int := (o2 fMod (o2 fAdd (o2 fMul (o2 m_law_mixed (some x_law_cell) (some x_law_k)) (some (1000003 : Int))) (o2 m_law_mixed (some x_law_cell) (o2 fAdd (some x_law_k) (some (500 : Int))))) (o2 fPow (some (10 : Int)) (some (12 : Int))))
set_option maxHeartbeats 4000000 in
theorem ok_law_great {P : Program} {w : World} {K : Fg} {mg : Str → Option Value} {base : Heap} (T : Txt K mg) : FnOk P w K mg base CX0 2 T.a_law_great T.d_law_great ["_law_cell", "_law_k"] (PSb K (A2 K m_law_great)) := by
  refine T.F_law_great.ok sc_law_great (fun vs H Q E h => ?_) (fun cdv A0 outer s H vs Q E hr h => ?_)
  · obtain ⟨r, ⟨v_law_cell, v_law_k, x_law_cell, x_law_k, rfl, r_law_cell, r_law_k, hm⟩, q⟩ := h
    rfl
  · obtain ⟨r_fn, ⟨v_law_cell, v_law_k, x_law_cell, x_law_k, rfl, r_law_cell, r_law_k, hm⟩, q⟩ := h
    refine ⟨_, (pss_cons (ps_ret (pe_op op_mod (pe_op op_add (pe_op op_mul (pe_call (ok_law_mixed T) (hr.mono (by decide)) (by rfl) T.g_law_mixed T.F_law_mixed.kp T.b_law_mixed .nil pass0 (pa_cons (pv 0) (pa_cons (pv 1) pa_nil))) pe_int) (pe_call (ok_law_mixed T) (hr.mono (by decide)) (by rfl) T.g_law_mixed T.F_law_mixed.kp T.b_law_mixed .nil pass0 (pa_cons (pv 0) (pa_cons (pe_op op_add (pv 1) pe_int) pa_nil)))) (pe_op op_pow pe_int pe_int))) pss_nil), ?_⟩
    unfold m_law_great at hm
    obtain ⟨H0, e0, q⟩ := heapB q
    obtain ⟨G, A, r_law_cell, r_law_k⟩ : exists G, At G H [] ∧ rp K G v_law_cell x_law_cell ∧ rp K G v_law_k x_law_k := ⟨H, At.nil H, r_law_cell, r_law_k⟩
    exact sr_b (x_mod (x_add (x_mul (eb_call (em2 (eb_v rfl (Rp.mono A.ex r_law_cell)) (eb_v rfl (Rp.mono A.ex r_law_k)))) (eb_int (K := K))) (eb_call (em2 (eb_v rfl (Rp.mono A.ex r_law_cell)) (x_add (eb_v rfl (Rp.mono A.ex r_law_k)) (eb_int (K := K)))))) (x_pow (eb_int (K := K)) (eb_int (K := K)))) hm fun w H e r => q w H (e0.trans e) r
/-! _law_point -/
def m_law_point (x_law_cell : Int) (x_law_k : Int) (x_law_most : Int) (x_law_ahead : (List Int)) : Option Int := ((o2 m_law_mixed (some x_law_cell) (o2 fAdd (o2 fMul (some (3 : Int)) (some x_law_k)) (some (20 : Int))))).bind fun x_law_way => ((oAnd (o2 fNe (some x_law_ahead) (o1 szOk (some ([] : List Int)))) (o2 fEq (o2 fMod (some x_law_way) (some (2 : Int))) (some (0 : Int))))).bind fun b160 => if b160 = true then (o2 fMax (some (0 : Int)) (o2 fMin (some x_law_most) (o2 fSub (o2 fAdd (o2 ix (some x_law_ahead) (o2 fMod (o2 fDiv (some x_law_way) (some (6 : Int))) (o1 fLen (some x_law_ahead)))) (o2 fMod (o2 fDiv (some x_law_way) (some (2 : Int))) (some (3 : Int)))) (some (1 : Int))))) else (o2 fMod (o2 m_law_great (some x_law_cell) (some x_law_k)) (o2 fAdd (some x_law_most) (some (1 : Int))))
set_option maxHeartbeats 4000000 in
theorem ok_law_point {P : Program} {w : World} {K : Fg} {mg : Str → Option Value} {base : Heap} (T : Txt K mg) : FnOk P w K mg base CX0 3 T.a_law_point T.d_law_point ["_law_cell", "_law_k", "_law_most", "_law_ahead"] (PSb K (A4 K m_law_point)) := by
  refine T.F_law_point.ok sc_law_point (fun vs H Q E h => ?_) (fun cdv A0 outer s H vs Q E hr h => ?_)
  · obtain ⟨r, ⟨v_law_cell, v_law_k, v_law_most, v_law_ahead, x_law_cell, x_law_k, x_law_most, x_law_ahead, rfl, r_law_cell, r_law_k, r_law_most, r_law_ahead, hm⟩, q⟩ := h
    rfl
  · obtain ⟨r_fn, ⟨v_law_cell, v_law_k, v_law_most, v_law_ahead, x_law_cell, x_law_k, x_law_most, x_law_ahead, rfl, r_law_cell, r_law_k, r_law_most, r_law_ahead, hm⟩, q⟩ := h
    refine ⟨_, (pss_cons (ps_set (i := 4) sc_law_point.nd rfl (by first | exact Or.inl rfl | exact Or.inr rfl) (pe_call (ok_law_mixed T) (hr.mono (by decide)) (by rfl) T.g_law_mixed T.F_law_mixed.kp T.b_law_mixed .nil pass0 (pa_cons (pv 0) (pa_cons (pe_op op_add (pe_op op_mul pe_int (pv 1)) pe_int) pa_nil)))) (pss_cons (ps_if (PW.pt (pw_and (pt_cmpR (opNe_K (K := K) rfl hr.units) (pv 3) (pe_lst pa_nil) (nomark _)) (pw_and1 (pt_cmpR (opEq_K (K := K) rfl hr.units) (pe_op op_mod (pv 4) pe_int) pe_int (nomark _))))) (pss_cons (ps_ret (pe_callB (call_max2 rfl) (by rfl) T.n_max bb_max (pa_cons pe_int (pa_cons (pe_callB (call_min2 rfl) (by rfl) T.n_min bb_min (pa_cons (pv 2) (pa_cons (pe_op op_sub (pe_op op_add (pe_ix (ixL_K (K := K) rfl) (pv 3) (pe_op op_mod (pe_op op_fdiv (pv 4) pe_int) (pe_callB (len_K (K := K) rfl) (by rfl) T.n_len bb_len (pa_cons (pv 3) pa_nil))) (fun _ _ => rfl)) (pe_op op_mod (pe_op op_fdiv (pv 4) pe_int) pe_int)) pe_int) pa_nil))) pa_nil)))) pss_nil) pss_nil) (pss_cons (ps_ret (pe_op op_mod (pe_call (ok_law_great T) (hr.mono (by decide)) (by rfl) T.g_law_great T.F_law_great.kp T.b_law_great .nil pass0 (pa_cons (pv 0) (pa_cons (pv 1) pa_nil))) (pe_op op_add (pv 2) pe_int))) pss_nil))), ?_⟩
    unfold m_law_point at hm
    obtain ⟨H0, e0, q⟩ := heapB q
    obtain ⟨G, A, r_law_cell, r_law_k, r_law_most, r_law_ahead⟩ : exists G, At G H [] ∧ rp K G v_law_cell x_law_cell ∧ rp K G v_law_k x_law_k ∧ rp K G v_law_most x_law_most ∧ rp K G v_law_ahead x_law_ahead := ⟨H, At.nil H, r_law_cell, r_law_k, r_law_most, r_law_ahead⟩
    obtain ⟨x_law_way, hx, hm⟩ := bnd hm
    refine st_asg ((eb_call (em2 (eb_v rfl (Rp.mono A.ex r_law_cell)) (x_add (x_mul (eb_int (K := K)) (eb_v rfl (Rp.mono A.ex r_law_k))) (eb_int (K := K)))))).own hx A fun v_law_way G158 H159 g e A r_law_way => ?_
    replace r_law_cell := Rp.mono g r_law_cell
    replace r_law_k := Rp.mono g r_law_k
    replace r_law_most := Rp.mono g r_law_most
    replace r_law_ahead := Rp.mono g r_law_ahead
    replace e0 := e0.trans e
    obtain ⟨b160, hb160, hm⟩ := bnd hm
    refine st_if (et_and (et_test (x_ne (by decide) (eb_v rfl (Rp.mono A.ex r_law_ahead)) ((x_lst (l_nil (K := K)))).b)) (et_test (x_eq (by decide) (x_mod (eb_v rfl (Rp.mono A.ex r_law_way)) (eb_int (K := K))) (eb_int (K := K))))) hb160 (fun eb160 H161 e => ?_) (fun eb160 H161 e => ?_)
    · subst eb160
      replace hm := itt hm
      replace A := A.grow e
      replace e0 := e0.trans e
      exact sr_b (x_max (eb_int (K := K)) (x_min (eb_v rfl (Rp.mono A.ex r_law_most)) (x_sub (x_add (x_ixL (eb_v rfl (Rp.mono A.ex r_law_ahead)) (x_mod (x_div (eb_v rfl (Rp.mono A.ex r_law_way)) (eb_int (K := K))) (x_lenL (eb_v rfl (Rp.mono A.ex r_law_ahead))))) (x_mod (x_div (eb_v rfl (Rp.mono A.ex r_law_way)) (eb_int (K := K))) (eb_int (K := K)))) (eb_int (K := K))))) hm fun w H e r => q w H (e0.trans e) r
    · subst eb160
      replace hm := itf hm
      replace A := A.grow e
      replace e0 := e0.trans e
      exact sr_b (x_mod (eb_call (em2 (eb_v rfl (Rp.mono A.ex r_law_cell)) (eb_v rfl (Rp.mono A.ex r_law_k)))) (x_add (eb_v rfl (Rp.mono A.ex r_law_most)) (eb_int (K := K)))) hm fun w H e r => q w H (e0.trans e) r
/-! _law_made -/
def m_law_made_l1 (s163 : (List (Int × Int))) (x163 : (T3 Int Int Bool)) : Option (List (Int × Int)) := ((oAnd (some x163.c) (oAnd (o2 fNe (some s163) (o1 szOk (some ([] : List (Int × Int))))) (o2 fEq (o2 fAdd (o1 fSnd (o2 ix (some s163) (o1 fNeg (some (1 : Int))))) (some (1 : Int))) (some x163.a))))).bind fun b169 => if b169 = true then (((o2 fPair (o1 fFst (o2 ix (some s163) (o1 fNeg (some (1 : Int))))) (o2 fSub (some x163.b) (some (1 : Int))))).bind fun y171 => ((o1 fNeg (some (1 : Int)))).bind fun y172 => (fSetL s163 y172 y171).bind fun x_law_found => some x_law_found) else (((some x163.c)).bind fun b176 => if b176 = true then (((o2 fPair (some x163.a) (o2 fSub (some x163.b) (some (1 : Int))))).bind fun y178 => (fApp s163 y178).bind fun x_law_found => some x_law_found) else (some s163))
def m_law_made (x_law_most : Int) (x_law_begins : (List Int)) (x_law_truths : (List Bool)) : Option (Tl (Int × Int)) := ((o3 fZip3 (some x_law_begins) (o2 fCat (o3 fCut (some x_law_begins) (((some (1 : Int))).map some) (some none)) (o1 szOk (o2 fCons (o2 fAdd (some x_law_most) (some (1 : Int))) (some ([] : List Int))))) (some x_law_truths))).bind fun xs163 => (foldO m_law_made_l1 ([] : List (Int × Int)) xs163).bind fun w163 => (o1 fTuple (some w163))
set_option maxHeartbeats 4000000 in
theorem ok_law_made {P : Program} {w : World} {K : Fg} {mg : Str → Option Value} {base : Heap} (T : Txt K mg) : FnOk P w K mg base CX0 1 T.a_law_made T.d_law_made ["_law_most", "_law_begins", "_law_truths"] (PSb K (A3 K m_law_made)) := by
  refine T.F_law_made.ok sc_law_made (fun vs H Q E h => ?_) (fun cdv A0 outer s H vs Q E hr h => ?_)
  · obtain ⟨r, ⟨v_law_most, v_law_begins, v_law_truths, x_law_most, x_law_begins, x_law_truths, rfl, r_law_most, r_law_begins, r_law_truths, hm⟩, q⟩ := h
    rfl
  · obtain ⟨r_fn, ⟨v_law_most, v_law_begins, v_law_truths, x_law_most, x_law_begins, x_law_truths, rfl, r_law_most, r_law_begins, r_law_truths, hm⟩, q⟩ := h
    refine ⟨_, (pss_cons (ps_set (i := 3) sc_law_made.nd rfl (by first | exact Or.inl rfl | exact Or.inr rfl) (pe_lst pa_nil)) (pss_cons (ps_for PassesOwn.never rfl (pi_zip3 (by rfl) T.n_zip (pa_cons (pv 1) (pa_cons (pe_op op_cat (pe_slice (slL_K (K := K) rfl) (pv 1) (po_some pe_int) po_none) (pe_lst (pa_cons (pe_op op_add (pv 0) pe_int) pa_nil))) (pa_cons (pv 2) pa_nil)))) (pg_tup rfl (pgs_cons (pg_name (i := 4) sc_law_made.nd rfl (by first | exact Or.inl rfl | exact Or.inr rfl)) (pgs_cons (pg_name (i := 5) sc_law_made.nd rfl (by first | exact Or.inl rfl | exact Or.inr rfl)) (pgs_cons (pg_name (i := 6) sc_law_made.nd rfl (by first | exact Or.inl rfl | exact Or.inr rfl)) pgs_nil)))) (pss_cons (ps_if (PW.pt (pw_and (pt_val (pv 6)) (pw_and (pt_cmpR (opNe_K (K := K) rfl hr.units) (pv 3) (pe_lst pa_nil) (nomark _)) (pw_and1 (pt_cmpR (opEq_K (K := K) rfl hr.units) (pe_op op_add (pe_ix (ixT_K (K := K) rfl) (pe_ix (ixL_K (K := K) rfl) (pv 3) (pe_un un_neg pe_int) (fun _ _ => rfl)) pe_int (fun _ _ => rfl)) pe_int) (pv 4) (nomark _)))))) (pss_cons (ps_asg (pe_tup (pa_cons (pe_ix (ixT_K (K := K) rfl) (pe_ix (ixL_K (K := K) rfl) (pv 3) (pe_un un_neg pe_int) (fun _ _ => rfl)) pe_int (fun _ _ => rfl)) (pa_cons (pe_op op_sub (pv 5) pe_int) pa_nil))) (pg_sub (pv 3) (pe_un un_neg pe_int) set_list)) pss_nil) (pss_cons (ps_if (pt_val (pv 6)) (pss_cons (ps_expr (pe_bm PySem.F.plainAttrs_list PySem.F.slot_list_append PySem.F.type_list_append mt_append (pv 3) (pa_cons (pe_tup (pa_cons (pv 4) (pa_cons (pe_op op_sub (pv 5) pe_int) pa_nil))) pa_nil))) pss_nil) pss_nil) pss_nil)) pss_nil)) (pss_cons (ps_ret (pe_callTy (tof_K (K := K) rfl) (by rfl) T.n_tuple bb_tuple (pa_cons (pv 3) pa_nil))) pss_nil))), ?_⟩
    unfold m_law_made at hm
    obtain ⟨H0, e0, q⟩ := heapB q
    obtain ⟨G, A, r_law_most, r_law_begins, r_law_truths⟩ : exists G, At G H [] ∧ rp K G v_law_most x_law_most ∧ rp K G v_law_begins x_law_begins ∧ rp K G v_law_truths x_law_truths := ⟨H, At.nil H, r_law_most, r_law_begins, r_law_truths⟩
    refine st_new A fun p_law_found hp_law_found A => ?_
    have ne0_law_found := e0.back hp_law_found
    replace e0 := e0.trans (Gx.new (o := HO.lst []) hp_law_found)
    have al_law_found : Al (rp K G) ([] : List V) ([] : List (Int × Int)) := trivial
    generalize upd _ p_law_found (.lst []) = H162 at A e0 ⊢
    obtain ⟨xs163, hx163, hm⟩ := bnd hm
    obtain ⟨w163, hl163, hm⟩ := bnd hm
    refine st_for (M := [p_law_found]) (i_zip3 (es_v rfl r_law_begins A.ex (A.hM (by simp))) (es_n (x_cat ((x_cut (eb_v rfl (Rp.mono A.ex r_law_begins)) (ep_some (eb_int (K := K))) ep_none)).b ((x_lst (l_cons (x_add (eb_v rfl (Rp.mono A.ex r_law_most)) (eb_int (K := K))) (l_nil (K := K))))).b) (A.hMu (by simp))) (es_v rfl r_law_truths A.ex (A.hM (by simp)))) hx163 fun J163 HL163 e wk163 => ?_
    replace A := A.grow e
    replace e0 := e0.trans e
    have eM163 : Gx (mns HL163 [p_law_found]) HL163 := mns_ex
    have gL163 : Gx G G := Gx.rfl
    have neM163_law_found : (mns HL163 [p_law_found]) p_law_found = none := mns_in (by simp)
    refine fold_run wk163 hl163 (tg_3 tg_n tg_n tg_n) (fun (s163 : (List (Int × Int))) (σ : L2.St) (H : Hp) => exists (Gi : Hp) (k_law_begin : Option V) (k_law_behind : Option V) (k_law_truth : Option V) (vs_law_found : List V), σ = [some v_law_most, some v_law_begins, some v_law_truths, some (.ref p_law_found), k_law_begin, k_law_behind, k_law_truth] ∧ Gx H0 H ∧ Gx (mns HL163 [p_law_found]) H ∧ Gx G Gi ∧ At Gi H [(p_law_found, HO.lst vs_law_found)] ∧ Al (rp K Gi) vs_law_found s163) (fun s σ H h => ?_) ?_ (fun s163 x163 o163 σ H167 H165 σ2 hxm hf hin e hb => ?_) (fun σ H183 hin => ?_)
    · obtain ⟨Gi, k_law_begin, k_law_behind, k_law_truth, vs_law_found, rfl, e0, eM163, gL163, A, al_law_found⟩ := h
      exact eM163
    · exact ⟨_, _, _, _, _, rfl, e0, eM163, gL163, A, al_law_found⟩
    · obtain ⟨G164, k_law_begin, k_law_behind, k_law_truth, vs_law_found, rfl, e0, eM163, gL163, A, al_law_found⟩ := hin
      obtain ⟨_, _, ⟨v_law_begin, r_law_begin, rfl⟩, ⟨v_law_behind, r_law_behind, rfl⟩, ⟨v_law_truth, r_law_truth, rfl⟩⟩ := hb
      replace A := A.grow e
      replace e0 := e0.trans e
      replace eM163 := eM163.trans e
      replace r_law_most := Rp.mono gL163 r_law_most
      replace r_law_begins := Rp.mono gL163 r_law_begins
      replace r_law_truths := Rp.mono gL163 r_law_truths
      replace r_law_begin := Im.im A.tx r_law_begin
      replace r_law_behind := Im.im A.tx r_law_behind
      replace r_law_truth := Im.im A.tx r_law_truth
      have g := A.gh
      replace A := A.hid
      replace r_law_most := Rp.mono g r_law_most
      replace r_law_begins := Rp.mono g r_law_begins
      replace r_law_truths := Rp.mono g r_law_truths
      replace al_law_found := al_law_found.mono fun _ _ => Rp.mono g
      replace gL163 := gL163.trans g
      generalize hid _ _ = G168 at *
      have hm := hf
      unfold m_law_made_l1 at hm
      obtain ⟨b169, hb169, hm⟩ := bnd hm
      refine st_if (et_and (et_b (eb_v rfl (Rp.mono A.ex r_law_truth))) (et_and (et_test (x_ne (by decide) (eb_v rfl (mv_rp A (List.Mem.head _) al_law_found)) ((x_lst (l_nil (K := K)))).b)) (et_test (x_eq (by decide) (x_add (x_snd (x_ixL (eb_v rfl (mv_rp A (List.Mem.head _) al_law_found)) (x_neg (eb_int (K := K))))) (eb_int (K := K))) (eb_v rfl (Rp.mono A.ex r_law_begin)))))) hb169 (fun eb169 H170 e => ?_) (fun eb169 H170 e => ?_)
      · subst eb169
        replace hm := itt hm
        replace A := A.grow e
        replace e0 := e0.trans e
        replace eM163 := eM163.trans e
        obtain ⟨y171, hy171, hm⟩ := bnd hm
        obtain ⟨y172, hy172, hm⟩ := bnd hm
        obtain ⟨x_law_found, hd, hm⟩ := bnd hm
        obtain ⟨j_law_found, hj, hd⟩ := fSets hd
        refine st_setL (L1 := []) ((x_pair (x_fst (x_ixL (eb_v rfl (mv_rp A (List.Mem.head _) al_law_found)) (x_neg (eb_int (K := K))))) (x_sub (eb_v rfl (Rp.mono A.ex r_law_behind)) (eb_int (K := K))))).own hy171 (slot_ref rfl) (x_neg (eb_int (K := K))) hy172 A (by rw [al_law_found.len]; exact hj) fun v_y171 G173 H174 g e A r_y171 => ?_
        replace r_law_most := Rp.mono g r_law_most
        replace r_law_begins := Rp.mono g r_law_begins
        replace r_law_truths := Rp.mono g r_law_truths
        replace al_law_found := al_law_found.mono fun _ _ => Rp.mono g
        replace r_law_begin := Rp.mono g r_law_begin
        replace r_law_behind := Rp.mono g r_law_behind
        replace r_law_truth := Rp.mono g r_law_truth
        replace gL163 := gL163.trans g
        replace e0 := e0.trans e
        replace eM163 := eM163.trans e
        replace al_law_found := Al.set r_y171 j_law_found al_law_found
        rw [← hd] at al_law_found
        replace e0 := Gx.mutA e0 ne0_law_found A
        replace eM163 := Gx.mutA eM163 neM163_law_found A
        generalize upd _ p_law_found (.lst _) = H175 at A e0 eM163 ⊢
        obtain rfl := Option.some.inj hm
        exact ⟨_, _, _, _, _, rfl, e0, eM163, gL163, A, al_law_found⟩
      · subst eb169
        replace hm := itf hm
        replace A := A.grow e
        replace e0 := e0.trans e
        replace eM163 := eM163.trans e
        obtain ⟨b176, hb176, hm⟩ := bnd hm
        refine st_if (et_b (eb_v rfl (Rp.mono A.ex r_law_truth))) hb176 (fun eb176 H177 e => ?_) (fun eb176 H177 e => ?_)
        · subst eb176
          replace hm := itt hm
          replace A := A.grow e
          replace e0 := e0.trans e
          replace eM163 := eM163.trans e
          obtain ⟨y178, hy178, hm⟩ := bnd hm
          obtain ⟨x_law_found, hd, hm⟩ := bnd hm
          replace hd := fApps hd
          refine st_app (L1 := []) (slot_ref rfl) ((x_pair (eb_v rfl (Rp.mono A.ex r_law_begin)) (x_sub (eb_v rfl (Rp.mono A.ex r_law_behind)) (eb_int (K := K))))).own hy178 A (by rw [al_law_found.len]; exact hd.2) fun v_y178 G179 H180 g e A r_y178 => ?_
          replace r_law_most := Rp.mono g r_law_most
          replace r_law_begins := Rp.mono g r_law_begins
          replace r_law_truths := Rp.mono g r_law_truths
          replace al_law_found := al_law_found.mono fun _ _ => Rp.mono g
          replace r_law_begin := Rp.mono g r_law_begin
          replace r_law_behind := Rp.mono g r_law_behind
          replace r_law_truth := Rp.mono g r_law_truth
          replace gL163 := gL163.trans g
          replace e0 := e0.trans e
          replace eM163 := eM163.trans e
          replace al_law_found := al_law_found.app (Al.one r_y178)
          rw [← hd.1] at al_law_found
          replace e0 := Gx.mutA e0 ne0_law_found A
          replace eM163 := Gx.mutA eM163 neM163_law_found A
          generalize upd _ p_law_found (.lst _) = H181 at A e0 eM163 ⊢
          obtain rfl := Option.some.inj hm
          exact ⟨_, _, _, _, _, rfl, e0, eM163, gL163, A, al_law_found⟩
        · subst eb176
          replace hm := itf hm
          replace A := A.grow e
          replace e0 := e0.trans e
          replace eM163 := eM163.trans e
          obtain rfl := Option.some.inj hm
          exact ⟨_, _, _, _, _, rfl, e0, eM163, gL163, A, al_law_found⟩
    · obtain ⟨G182, k_law_begin, k_law_behind, k_law_truth, vs_law_found, rfl, e0, eM163, gL163, A, al_law_found⟩ := hin
      replace r_law_most := Rp.mono gL163 r_law_most
      replace r_law_begins := Rp.mono gL163 r_law_begins
      replace r_law_truths := Rp.mono gL163 r_law_truths
      exact sr_b (x_tuple (eb_v rfl (mv_rp A (List.Mem.head _) al_law_found))) hm fun w H e r => q w H (e0.trans e) r
/-! _law_most_by -/
def m_law_most_by (x_law_script : Scr) : Option Int := ((o1 fSum (oComp (fun (y184 : Int) => (some true)) (fun (y184 : Int) => (o2 m_law_mixed (some y184) (some (3 : Int)))) (o3 fCutS (some x_law_script) (some none) (((some (80 : Int))).map some))))).bind fun x_law_cell => (o2 ix (o1 szOk (o2 fCons (o2 fMod (some x_law_cell) (some (40 : Int))) (o2 fCons (o2 fPow (some (10 : Int)) (some (12 : Int))) (o2 fCons (o2 m_law_great (some x_law_cell) (some (5 : Int))) (o2 fCons (o2 fMod (some x_law_cell) (some (7 : Int))) (some ([] : List Int))))))) (o2 fMod (o2 fDiv (some x_law_cell) (some (40 : Int))) (some (4 : Int))))
set_option maxHeartbeats 4000000 in
theorem ok_law_most_by {P : Program} {w : World} {K : Fg} {mg : Str → Option Value} {base : Heap} (T : Txt K mg) : FnOk P w K mg base CX0 3 T.a_law_most_by T.d_law_most_by ["_law_script"] (PSb K (A1 K m_law_most_by)) := by
  refine T.F_law_most_by.ok sc_law_most_by (fun vs H Q E h => ?_) (fun cdv A0 outer s H vs Q E hr h => ?_)
  · obtain ⟨r, ⟨v_law_script, x_law_script, rfl, r_law_script, hm⟩, q⟩ := h
    rfl
  · obtain ⟨r_fn, ⟨v_law_script, x_law_script, rfl, r_law_script, hm⟩, q⟩ := h
    refine ⟨_, (pss_cons (ps_set (i := 1) sc_law_most_by.nd rfl (by first | exact Or.inl rfl | exact Or.inr rfl) (pe_callB (cr_sum rfl) (by rfl) T.n_sum bb_sum (pa_cons (pe_lc (own := [("_law_cell", 1)]) (g := (gName 1)) rfl sc_law_most_by.nd (piL_K (K := K) rfl (pe_slice (slL_K (K := K) rfl) (pv 0) po_none (po_some pe_int))) (blkOk_by (N := ["_law_script", "_law_cell"]) (sc := defScope s_law_most_by) (by decide +kernel)) (fun _ _ _ _ _ => by exact (pg_name (i := 1) sc_law_most_by.nd rfl (by first | exact Or.inl rfl | exact Or.inr rfl))) (fun _ _ _ _ _ => by exact pts_nil) (fun _ _ _ _ _ => by exact (pe_call (ok_law_mixed T) (hr.mono (by decide)) (by rfl) T.g_law_mixed T.F_law_mixed.kp T.b_law_mixed .nil pass0 (pa_cons (pv 1) (pa_cons pe_int pa_nil))))) pa_nil))) (pss_cons (ps_ret (pe_ix (ixL_K (K := K) rfl) (pe_lst (pa_cons (pe_op op_mod (pv 1) pe_int) (pa_cons (pe_op op_pow pe_int pe_int) (pa_cons (pe_call (ok_law_great T) (hr.mono (by decide)) (by rfl) T.g_law_great T.F_law_great.kp T.b_law_great .nil pass0 (pa_cons (pv 1) (pa_cons pe_int pa_nil))) (pa_cons (pe_op op_mod (pv 1) pe_int) pa_nil))))) (pe_op op_mod (pe_op op_fdiv (pv 1) pe_int) pe_int) (fun _ _ => rfl))) pss_nil)), ?_⟩
    unfold m_law_most_by at hm
    obtain ⟨H0, e0, q⟩ := heapB q
    obtain ⟨G, A, r_law_script⟩ : exists G, At G H [] ∧ rp K G v_law_script x_law_script := ⟨H, At.nil H, r_law_script⟩
    obtain ⟨x_law_cell, hx, hm⟩ := bnd hm
    refine st_asg ((x_sum ((x_lc (i_list (es_b ((x_cutS (eb_v rfl (Rp.mono A.ex r_law_script)) ep_none (ep_some (eb_int (K := K))))).b)) tg_n (bi_n (by decide)) (fun y184 σc Hc gh184 hb184 => by obtain ⟨c184v_law_cell, c184r_law_cell, rfl⟩ := hb184; exact t_yes) (fun y184 σc Hc gh184 hb184 => by obtain ⟨c184v_law_cell, c184r_law_cell, rfl⟩ := hb184; exact (eb_call (em2 (eb_v rfl c184r_law_cell) (eb_int (K := K))))))).b)).own hx A fun v_law_cell G185 H186 g e A r_law_cell => ?_
    replace r_law_script := Rp.mono g r_law_script
    replace e0 := e0.trans e
    exact sr_b (x_ixL ((x_lst (l_cons (x_mod (eb_v rfl (Rp.mono A.ex r_law_cell)) (eb_int (K := K))) (l_cons (x_pow (eb_int (K := K)) (eb_int (K := K))) (l_cons (eb_call (em2 (eb_v rfl (Rp.mono A.ex r_law_cell)) (eb_int (K := K)))) (l_cons (x_mod (eb_v rfl (Rp.mono A.ex r_law_cell)) (eb_int (K := K))) (l_nil (K := K)))))))).b (x_mod (x_div (eb_v rfl (Rp.mono A.ex r_law_cell)) (eb_int (K := K))) (eb_int (K := K)))) hm fun w H e r => q w H (e0.trans e) r
/-! _law_deed -/
def m_law_deed (x_law_cell : Int) (x_law_most : Int) (x_law_kept : (List (Tl (Int × Int)))) (x_law_truths : (List (List Bool))) (x_law_begins : (List Int)) : Option (Int × (List (Tl (Int × Int))) × (List (List Bool))) := ((o2 m_law_mixed (some x_law_cell) (some (13 : Int)))).bind fun x_law_way => ((o2 fMod (some x_law_way) (some (5 : Int)))).bind fun x_law_at => ((o2 fMod (o2 fDiv (some x_law_way) (some (5 : Int))) (some (5 : Int)))).bind fun x_law_other => ((o2 fMod (o2 fDiv (some x_law_way) (some (25 : Int))) (some (7 : Int)))).bind fun x_law_deed_here => ((o2 fEq (some x_law_deed_here) (some (0 : Int)))).bind fun b195 => if b195 = true then (((o2 m_joined (o2 ix (some x_law_kept) (some x_law_at)) (o2 ix (some x_law_kept) (some x_law_other)))).bind fun y197 => ((some x_law_at)).bind fun y198 => (fSetL x_law_kept y198 y197).bind fun x_law_kept => ((oComp (fun (y202 : (Bool × Bool)) => (some true)) (fun (y202 : (Bool × Bool)) => (oOr (some y202.1) (some y202.2))) (o2 fZip (o2 ix (some x_law_truths) (some x_law_at)) (o2 ix (some x_law_truths) (some x_law_other))))).bind fun y203 => ((some x_law_at)).bind fun y204 => (fSetL x_law_truths y204 y203).bind fun x_law_truths => ((some x_law_at)).bind fun y208 => some (y208, x_law_kept, x_law_truths)) else (((o2 fEq (some x_law_deed_here) (some (1 : Int)))).bind fun b209 => if b209 = true then (((o2 m_cut (o2 ix (some x_law_kept) (some x_law_at)) (o2 ix (some x_law_kept) (some x_law_other)))).bind fun y211 => ((some x_law_at)).bind fun y212 => (fSetL x_law_kept y212 y211).bind fun x_law_kept => ((oComp (fun (y216 : (Bool × Bool)) => (some true)) (fun (y216 : (Bool × Bool)) => (oAnd (some y216.1) (some y216.2))) (o2 fZip (o2 ix (some x_law_truths) (some x_law_at)) (o2 ix (some x_law_truths) (some x_law_other))))).bind fun y217 => ((some x_law_at)).bind fun y218 => (fSetL x_law_truths y218 y217).bind fun x_law_truths => ((some x_law_at)).bind fun y222 => some (y222, x_law_kept, x_law_truths)) else (((o2 fEq (some x_law_deed_here) (some (2 : Int)))).bind fun b223 => if b223 = true then (((o2 m_less (o2 ix (some x_law_kept) (some x_law_at)) (o2 ix (some x_law_kept) (some x_law_other)))).bind fun y225 => ((some x_law_at)).bind fun y226 => (fSetL x_law_kept y226 y225).bind fun x_law_kept => ((oComp (fun (y230 : (Bool × Bool)) => (some true)) (fun (y230 : (Bool × Bool)) => (oAnd (some y230.1) (oNot (some y230.2)))) (o2 fZip (o2 ix (some x_law_truths) (some x_law_at)) (o2 ix (some x_law_truths) (some x_law_other))))).bind fun y231 => ((some x_law_at)).bind fun y232 => (fSetL x_law_truths y232 y231).bind fun x_law_truths => ((some x_law_at)).bind fun y236 => some (y236, x_law_kept, x_law_truths)) else (((o2 fEq (some x_law_deed_here) (some (3 : Int)))).bind fun b237 => if b237 = true then (((o2 m_turned (some x_law_most) (o2 ix (some x_law_kept) (some x_law_at)))).bind fun y239 => ((some x_law_at)).bind fun y240 => (fSetL x_law_kept y240 y239).bind fun x_law_kept => ((oComp (fun (y244 : Bool) => (some true)) (fun (y244 : Bool) => (oNot (some y244))) (o2 ix (some x_law_truths) (some x_law_at)))).bind fun y245 => ((some x_law_at)).bind fun y246 => (fSetL x_law_truths y246 y245).bind fun x_law_truths => ((some x_law_at)).bind fun y250 => some (y250, x_law_kept, x_law_truths)) else (((oAnd (o2 fEq (some x_law_deed_here) (some (4 : Int))) (o2 fEq (o2 fMod (o2 fDiv (some x_law_way) (some (175 : Int))) (some (3 : Int))) (some (1 : Int))))).bind fun b251 => if b251 = true then (((o2 ix (o1 szOk (o2 fCons (o1 fTup (o2 fCons (o2 fPair (some (0 : Int)) (some x_law_most)) (some ([] : List (Int × Int))))) (o2 fCons (o1 fTup (some ([] : List (Int × Int)))) (some ([] : List (Tl (Int × Int))))))) (o2 fMod (o2 fDiv (some x_law_way) (some (525 : Int))) (some (2 : Int))))).bind fun y253 => ((some x_law_at)).bind fun y254 => (fSetL x_law_kept y254 y253).bind fun x_law_kept => ((oComp (fun (y258 : Int) => (some true)) (fun (y258 : Int) => (o2 fEq (o2 fMod (o2 fDiv (some x_law_way) (some (525 : Int))) (some (2 : Int))) (some (0 : Int)))) (some x_law_begins))).bind fun y259 => ((some x_law_at)).bind fun y260 => (fSetL x_law_truths y260 y259).bind fun x_law_truths => ((some x_law_at)).bind fun y264 => some (y264, x_law_kept, x_law_truths)) else (((o2 fMod (o2 m_law_mixed (some x_law_cell) (some (14 : Int))) (o1 fLen (some x_law_begins)))).bind fun x_law_first => ((o2 fMin (o2 fSub (o1 fLen (some x_law_begins)) (some (1 : Int))) (o2 fAdd (some x_law_first) (o2 fMod (o2 m_law_mixed (some x_law_cell) (some (15 : Int))) (some (3 : Int)))))).bind fun x_law_last => ((o2 fPair (o2 ix (some x_law_begins) (some x_law_first)) (o2 fSub (o2 ix (o2 fCat (some x_law_begins) (o1 szOk (o2 fCons (o2 fAdd (some x_law_most) (some (1 : Int))) (some ([] : List Int))))) (o2 fAdd (some x_law_last) (some (1 : Int)))) (some (1 : Int))))).bind fun x_law_stretch => ((o2 m_set_of (some x_law_most) (o2 fCat (o1 fListT (o2 ix (some x_law_kept) (some x_law_at))) (o1 szOk (o2 fCons (some x_law_stretch) (some ([] : List (Int × Int)))))))).bind fun y271 => ((some x_law_at)).bind fun y272 => (fSetL x_law_kept y272 y271).bind fun x_law_kept => ((oComp (fun (y276 : (Int × Bool)) => (some true)) (fun (y276 : (Int × Bool)) => (oOr (some y276.2) (oChain fLe fLe (some x_law_first) (some y276.1) (some x_law_last)))) (((o2 ix (some x_law_truths) (some x_law_at))).map enum))).bind fun y277 => ((some x_law_at)).bind fun y278 => (fSetL x_law_truths y278 y277).bind fun x_law_truths => ((some x_law_at)).bind fun y282 => some (y282, x_law_kept, x_law_truths))))))
set_option maxHeartbeats 4000000 in
theorem ok_law_deed {P : Program} {w : World} {K : Fg} {mg : Str → Option Value} {base : Heap} (T : Txt K mg) : FnOk P w K mg base CX0 4 T.a_law_deed T.d_law_deed ["_law_cell", "_law_most", "_law_kept", "_law_truths", "_law_begins"] (PSd K m_law_deed) := by
  refine T.F_law_deed.ok sc_law_deed (fun vs H Q E h => ?_) (fun cdv A0 outer s H vs Q E hr h => ?_)
  · obtain ⟨LL, G0, v_law_cell, v_law_most, v_law_begins, p_law_kept, p_law_truths, vs_law_kept, vs_law_truths, x_law_cell, x_law_most, x_law_kept, x_law_truths, x_law_begins, r_fn, rfl, A, r_law_cell, r_law_most, al_law_kept, al_law_truths, r_law_begins, hm, q⟩ := h
    rfl
  · obtain ⟨LL, G0, v_law_cell, v_law_most, v_law_begins, p_law_kept, p_law_truths, vs_law_kept, vs_law_truths, x_law_cell, x_law_most, x_law_kept, x_law_truths, x_law_begins, r_fn, rfl, A, r_law_cell, r_law_most, al_law_kept, al_law_truths, r_law_begins, hm, q⟩ := h
    refine ⟨_, (pss_cons (ps_set (i := 5) sc_law_deed.nd rfl (by first | exact Or.inl rfl | exact Or.inr rfl) (pe_call (ok_law_mixed T) (hr.mono (by decide)) (by rfl) T.g_law_mixed T.F_law_mixed.kp T.b_law_mixed .nil pass0 (pa_cons (pv 0) (pa_cons pe_int pa_nil)))) (pss_cons (ps_set (i := 6) sc_law_deed.nd rfl (by first | exact Or.inl rfl | exact Or.inr rfl) (pe_op op_mod (pv 5) pe_int)) (pss_cons (ps_set (i := 7) sc_law_deed.nd rfl (by first | exact Or.inl rfl | exact Or.inr rfl) (pe_op op_mod (pe_op op_fdiv (pv 5) pe_int) pe_int)) (pss_cons (ps_set (i := 8) sc_law_deed.nd rfl (by first | exact Or.inl rfl | exact Or.inr rfl) (pe_op op_mod (pe_op op_fdiv (pv 5) pe_int) pe_int)) (pss_cons (ps_if (pt_cmpR (opEq_K (K := K) rfl hr.units) (pv 8) pe_int (nomark _)) (pss_cons (ps_asg (pe_call (ok_joined T) (hr.mono (by decide)) (by rfl) T.g_joined T.F_joined.kp T.b_joined .nil pass0 (pa_cons (pe_ix (ixL_K (K := K) rfl) (pv 2) (pv 6) (fun _ _ => rfl)) (pa_cons (pe_ix (ixL_K (K := K) rfl) (pv 2) (pv 7) (fun _ _ => rfl)) pa_nil))) (pg_sub (pv 2) (pv 6) set_list)) (pss_cons (ps_asg (pe_lc (own := [("_law_mine", 12), ("_law_its", 13)]) (g := (gTup K 2 (gCons (gName 12) (gCons (gName 13) gNil)))) rfl sc_law_deed.nd (pi_zip (by rfl) T.n_zip (pa_cons (pe_ix (ixL_K (K := K) rfl) (pv 3) (pv 6) (fun _ _ => rfl)) (pa_cons (pe_ix (ixL_K (K := K) rfl) (pv 3) (pv 7) (fun _ _ => rfl)) pa_nil))) (blkOk_by (N := ["_law_cell", "_law_most", "_law_kept", "_law_truths", "_law_begins", "_law_way", "_law_at", "_law_other", "_law_deed_here", "_law_first", "_law_last", "_law_stretch", "_law_mine", "_law_its", "_law_begin", "_law_k"]) (sc := defScope s_law_deed) (by decide +kernel)) (fun _ _ _ _ _ => by exact (pg_tup rfl (pgs_cons (pg_name (i := 12) sc_law_deed.nd rfl (by first | exact Or.inl rfl | exact Or.inr rfl)) (pgs_cons (pg_name (i := 13) sc_law_deed.nd rfl (by first | exact Or.inl rfl | exact Or.inr rfl)) pgs_nil)))) (fun _ _ _ _ _ => by exact pts_nil) (fun _ _ _ _ _ => by exact (pe_or (pv 12) (pe_one (pv 13))))) (pg_sub (pv 3) (pv 6) set_list)) pss_nil)) (pss_cons (ps_if (pt_cmpR (opEq_K (K := K) rfl hr.units) (pv 8) pe_int (nomark _)) (pss_cons (ps_asg (pe_call (ok_cut T) (hr.mono (by decide)) (by rfl) T.g_cut T.F_cut.kp T.b_cut .nil pass0 (pa_cons (pe_ix (ixL_K (K := K) rfl) (pv 2) (pv 6) (fun _ _ => rfl)) (pa_cons (pe_ix (ixL_K (K := K) rfl) (pv 2) (pv 7) (fun _ _ => rfl)) pa_nil))) (pg_sub (pv 2) (pv 6) set_list)) (pss_cons (ps_asg (pe_lc (own := [("_law_mine", 12), ("_law_its", 13)]) (g := (gTup K 2 (gCons (gName 12) (gCons (gName 13) gNil)))) rfl sc_law_deed.nd (pi_zip (by rfl) T.n_zip (pa_cons (pe_ix (ixL_K (K := K) rfl) (pv 3) (pv 6) (fun _ _ => rfl)) (pa_cons (pe_ix (ixL_K (K := K) rfl) (pv 3) (pv 7) (fun _ _ => rfl)) pa_nil))) (blkOk_by (N := ["_law_cell", "_law_most", "_law_kept", "_law_truths", "_law_begins", "_law_way", "_law_at", "_law_other", "_law_deed_here", "_law_first", "_law_last", "_law_stretch", "_law_mine", "_law_its", "_law_begin", "_law_k"]) (sc := defScope s_law_deed) (by decide +kernel)) (fun _ _ _ _ _ => by exact (pg_tup rfl (pgs_cons (pg_name (i := 12) sc_law_deed.nd rfl (by first | exact Or.inl rfl | exact Or.inr rfl)) (pgs_cons (pg_name (i := 13) sc_law_deed.nd rfl (by first | exact Or.inl rfl | exact Or.inr rfl)) pgs_nil)))) (fun _ _ _ _ _ => by exact pts_nil) (fun _ _ _ _ _ => by exact (pe_and (pv 12) (pe_one (pv 13))))) (pg_sub (pv 3) (pv 6) set_list)) pss_nil)) (pss_cons (ps_if (pt_cmpR (opEq_K (K := K) rfl hr.units) (pv 8) pe_int (nomark _)) (pss_cons (ps_asg (pe_call (ok_less T) (hr.mono (by decide)) (by rfl) T.g_less T.F_less.kp T.b_less .nil pass0 (pa_cons (pe_ix (ixL_K (K := K) rfl) (pv 2) (pv 6) (fun _ _ => rfl)) (pa_cons (pe_ix (ixL_K (K := K) rfl) (pv 2) (pv 7) (fun _ _ => rfl)) pa_nil))) (pg_sub (pv 2) (pv 6) set_list)) (pss_cons (ps_asg (pe_lc (own := [("_law_mine", 12), ("_law_its", 13)]) (g := (gTup K 2 (gCons (gName 12) (gCons (gName 13) gNil)))) rfl sc_law_deed.nd (pi_zip (by rfl) T.n_zip (pa_cons (pe_ix (ixL_K (K := K) rfl) (pv 3) (pv 6) (fun _ _ => rfl)) (pa_cons (pe_ix (ixL_K (K := K) rfl) (pv 3) (pv 7) (fun _ _ => rfl)) pa_nil))) (blkOk_by (N := ["_law_cell", "_law_most", "_law_kept", "_law_truths", "_law_begins", "_law_way", "_law_at", "_law_other", "_law_deed_here", "_law_first", "_law_last", "_law_stretch", "_law_mine", "_law_its", "_law_begin", "_law_k"]) (sc := defScope s_law_deed) (by decide +kernel)) (fun _ _ _ _ _ => by exact (pg_tup rfl (pgs_cons (pg_name (i := 12) sc_law_deed.nd rfl (by first | exact Or.inl rfl | exact Or.inr rfl)) (pgs_cons (pg_name (i := 13) sc_law_deed.nd rfl (by first | exact Or.inl rfl | exact Or.inr rfl)) pgs_nil)))) (fun _ _ _ _ _ => by exact pts_nil) (fun _ _ _ _ _ => by exact (pe_and (pv 12) (pe_one (pe_not (pv 13)))))) (pg_sub (pv 3) (pv 6) set_list)) pss_nil)) (pss_cons (ps_if (pt_cmpR (opEq_K (K := K) rfl hr.units) (pv 8) pe_int (nomark _)) (pss_cons (ps_asg (pe_call (ok_turned T) (hr.mono (by decide)) (by rfl) T.g_turned T.F_turned.kp T.b_turned .nil pass0 (pa_cons (pv 1) (pa_cons (pe_ix (ixL_K (K := K) rfl) (pv 2) (pv 6) (fun _ _ => rfl)) pa_nil))) (pg_sub (pv 2) (pv 6) set_list)) (pss_cons (ps_asg (pe_lc (own := [("_law_mine", 12)]) (g := (gName 12)) rfl sc_law_deed.nd (piL_K (K := K) rfl (pe_ix (ixL_K (K := K) rfl) (pv 3) (pv 6) (fun _ _ => rfl))) (blkOk_by (N := ["_law_cell", "_law_most", "_law_kept", "_law_truths", "_law_begins", "_law_way", "_law_at", "_law_other", "_law_deed_here", "_law_first", "_law_last", "_law_stretch", "_law_mine", "_law_its", "_law_begin", "_law_k"]) (sc := defScope s_law_deed) (by decide +kernel)) (fun _ _ _ _ _ => by exact (pg_name (i := 12) sc_law_deed.nd rfl (by first | exact Or.inl rfl | exact Or.inr rfl))) (fun _ _ _ _ _ => by exact pts_nil) (fun _ _ _ _ _ => by exact (pe_not (pv 12)))) (pg_sub (pv 3) (pv 6) set_list)) pss_nil)) (pss_cons (ps_if (PW.pt (pw_and (pt_cmpR (opEq_K (K := K) rfl hr.units) (pv 8) pe_int (nomark _)) (pw_and1 (pt_cmpR (opEq_K (K := K) rfl hr.units) (pe_op op_mod (pe_op op_fdiv (pv 5) pe_int) pe_int) pe_int (nomark _))))) (pss_cons (ps_asg (pe_ix (ixL_K (K := K) rfl) (pe_lst (pa_cons (pe_tup (pa_cons (pe_tup (pa_cons pe_int (pa_cons (pv 1) pa_nil))) pa_nil)) (pa_cons (pe_tup pa_nil) pa_nil))) (pe_op op_mod (pe_op op_fdiv (pv 5) pe_int) pe_int) (fun _ _ => rfl)) (pg_sub (pv 2) (pv 6) set_list)) (pss_cons (ps_asg (pe_lc (own := [("_law_begin", 14)]) (g := (gName 14)) rfl sc_law_deed.nd (piL_K (K := K) rfl (pv 4)) (blkOk_by (N := ["_law_cell", "_law_most", "_law_kept", "_law_truths", "_law_begins", "_law_way", "_law_at", "_law_other", "_law_deed_here", "_law_first", "_law_last", "_law_stretch", "_law_mine", "_law_its", "_law_begin", "_law_k"]) (sc := defScope s_law_deed) (by decide +kernel)) (fun _ _ _ _ _ => by exact (pg_name (i := 14) sc_law_deed.nd rfl (by first | exact Or.inl rfl | exact Or.inr rfl))) (fun _ _ _ _ _ => by exact pts_nil) (fun _ _ _ _ _ => by exact (pe_cmpR (opEq_K (K := K) rfl hr.units) (pe_op op_mod (pe_op op_fdiv (pv 5) pe_int) pe_int) pe_int (nomark _)))) (pg_sub (pv 3) (pv 6) set_list)) pss_nil)) (pss_cons (ps_set (i := 9) sc_law_deed.nd rfl (by first | exact Or.inl rfl | exact Or.inr rfl) (pe_op op_mod (pe_call (ok_law_mixed T) (hr.mono (by decide)) (by rfl) T.g_law_mixed T.F_law_mixed.kp T.b_law_mixed .nil pass0 (pa_cons (pv 0) (pa_cons pe_int pa_nil))) (pe_callB (len_K (K := K) rfl) (by rfl) T.n_len bb_len (pa_cons (pv 4) pa_nil)))) (pss_cons (ps_set (i := 10) sc_law_deed.nd rfl (by first | exact Or.inl rfl | exact Or.inr rfl) (pe_callB (call_min2 rfl) (by rfl) T.n_min bb_min (pa_cons (pe_op op_sub (pe_callB (len_K (K := K) rfl) (by rfl) T.n_len bb_len (pa_cons (pv 4) pa_nil)) pe_int) (pa_cons (pe_op op_add (pv 9) (pe_op op_mod (pe_call (ok_law_mixed T) (hr.mono (by decide)) (by rfl) T.g_law_mixed T.F_law_mixed.kp T.b_law_mixed .nil pass0 (pa_cons (pv 0) (pa_cons pe_int pa_nil))) pe_int)) pa_nil)))) (pss_cons (ps_set (i := 11) sc_law_deed.nd rfl (by first | exact Or.inl rfl | exact Or.inr rfl) (pe_tup (pa_cons (pe_ix (ixL_K (K := K) rfl) (pv 4) (pv 9) (fun _ _ => rfl)) (pa_cons (pe_op op_sub (pe_ix (ixL_K (K := K) rfl) (pe_op op_cat (pv 4) (pe_lst (pa_cons (pe_op op_add (pv 1) pe_int) pa_nil))) (pe_op op_add (pv 10) pe_int) (fun _ _ => rfl)) pe_int) pa_nil)))) (pss_cons (ps_asg (pe_call (ok_set_of T) (hr.mono (by decide)) (by rfl) T.g_set_of T.F_set_of.kp T.b_set_of .nil pass0 (pa_cons (pv 1) (pa_cons (pe_op op_cat (pe_callTy (lof_K (K := K) rfl) (by rfl) T.n_list bb_list (pa_cons (pe_ix (ixL_K (K := K) rfl) (pv 2) (pv 6) (fun _ _ => rfl)) pa_nil)) (pe_lst (pa_cons (pv 11) pa_nil))) pa_nil))) (pg_sub (pv 2) (pv 6) set_list)) (pss_cons (ps_asg (pe_lc (own := [("_law_k", 15), ("_law_mine", 12)]) (g := (gTup K 2 (gCons (gName 15) (gCons (gName 12) gNil)))) rfl sc_law_deed.nd (pi_enum (by rfl) T.n_enumerate (pa_cons (pe_ix (ixL_K (K := K) rfl) (pv 3) (pv 6) (fun _ _ => rfl)) pa_nil)) (blkOk_by (N := ["_law_cell", "_law_most", "_law_kept", "_law_truths", "_law_begins", "_law_way", "_law_at", "_law_other", "_law_deed_here", "_law_first", "_law_last", "_law_stretch", "_law_mine", "_law_its", "_law_begin", "_law_k"]) (sc := defScope s_law_deed) (by decide +kernel)) (fun _ _ _ _ _ => by exact (pg_tup rfl (pgs_cons (pg_name (i := 15) sc_law_deed.nd rfl (by first | exact Or.inl rfl | exact Or.inr rfl)) (pgs_cons (pg_name (i := 12) sc_law_deed.nd rfl (by first | exact Or.inl rfl | exact Or.inr rfl)) pgs_nil)))) (fun _ _ _ _ _ => by exact pts_nil) (fun _ _ _ _ _ => by exact (pe_or (pv 12) (pe_one (by exact pe_chain op_le op_le (pv 9) (pv 15) (pv 10)))))) (pg_sub (pv 3) (pv 6) set_list)) pss_nil)))))) pss_nil)) pss_nil)) pss_nil)) pss_nil)) (pss_cons (ps_ret (pv 6)) pss_nil)))))), ?_⟩
    unfold m_law_deed at hm
    obtain ⟨H0, hH0⟩ : exists H0, H0 = mns H [p_law_kept, p_law_truths] := ⟨_, rfl⟩
    rw [← hH0] at q
    have e0 : Gx H0 H := by rw [hH0]; exact mns_ex
    have ne0_law_kept : H0 p_law_kept = none := by rw [hH0]; exact mns_in (by simp)
    have ne0_law_truths : H0 p_law_truths = none := by rw [hH0]; exact mns_in (by simp)
    clear hH0
    have g0 : Gx G0 G0 := Gx.rfl
    obtain ⟨x_law_way, hx, hm⟩ := bnd hm
    refine st_asg ((eb_call (em2 (eb_v rfl (Rp.mono A.ex r_law_cell)) (eb_int (K := K))))).own hx A fun v_law_way G187 H188 g e A r_law_way => ?_
    replace r_law_cell := Rp.mono g r_law_cell
    replace r_law_most := Rp.mono g r_law_most
    replace al_law_kept := al_law_kept.mono fun _ _ => Rp.mono g
    replace al_law_truths := al_law_truths.mono fun _ _ => Rp.mono g
    replace r_law_begins := Rp.mono g r_law_begins
    replace g0 := g0.trans g
    replace e0 := e0.trans e
    obtain ⟨x_law_at, hx, hm⟩ := bnd hm
    refine st_asg ((x_mod (eb_v rfl (Rp.mono A.ex r_law_way)) (eb_int (K := K)))).own hx A fun v_law_at G189 H190 g e A r_law_at => ?_
    replace r_law_cell := Rp.mono g r_law_cell
    replace r_law_most := Rp.mono g r_law_most
    replace al_law_kept := al_law_kept.mono fun _ _ => Rp.mono g
    replace al_law_truths := al_law_truths.mono fun _ _ => Rp.mono g
    replace r_law_begins := Rp.mono g r_law_begins
    replace r_law_way := Rp.mono g r_law_way
    replace g0 := g0.trans g
    replace e0 := e0.trans e
    obtain ⟨x_law_other, hx, hm⟩ := bnd hm
    refine st_asg ((x_mod (x_div (eb_v rfl (Rp.mono A.ex r_law_way)) (eb_int (K := K))) (eb_int (K := K)))).own hx A fun v_law_other G191 H192 g e A r_law_other => ?_
    replace r_law_cell := Rp.mono g r_law_cell
    replace r_law_most := Rp.mono g r_law_most
    replace al_law_kept := al_law_kept.mono fun _ _ => Rp.mono g
    replace al_law_truths := al_law_truths.mono fun _ _ => Rp.mono g
    replace r_law_begins := Rp.mono g r_law_begins
    replace r_law_way := Rp.mono g r_law_way
    replace r_law_at := Rp.mono g r_law_at
    replace g0 := g0.trans g
    replace e0 := e0.trans e
    obtain ⟨x_law_deed_here, hx, hm⟩ := bnd hm
    refine st_asg ((x_mod (x_div (eb_v rfl (Rp.mono A.ex r_law_way)) (eb_int (K := K))) (eb_int (K := K)))).own hx A fun v_law_deed_here G193 H194 g e A r_law_deed_here => ?_
    replace r_law_cell := Rp.mono g r_law_cell
    replace r_law_most := Rp.mono g r_law_most
    replace al_law_kept := al_law_kept.mono fun _ _ => Rp.mono g
    replace al_law_truths := al_law_truths.mono fun _ _ => Rp.mono g
    replace r_law_begins := Rp.mono g r_law_begins
    replace r_law_way := Rp.mono g r_law_way
    replace r_law_at := Rp.mono g r_law_at
    replace r_law_other := Rp.mono g r_law_other
    replace g0 := g0.trans g
    replace e0 := e0.trans e
    obtain ⟨b195, hb195, hm⟩ := bnd hm
    refine st_if (et_test (x_eq (by decide) (eb_v rfl (Rp.mono A.ex r_law_deed_here)) (eb_int (K := K)))) hb195 (fun eb195 H196 e => ?_) (fun eb195 H196 e => ?_)
    · subst eb195
      replace hm := itt hm
      replace A := A.grow e
      replace e0 := e0.trans e
      obtain ⟨y197, hy197, hm⟩ := bnd hm
      obtain ⟨y198, hy198, hm⟩ := bnd hm
      obtain ⟨x_law_kept, hd, hm⟩ := bnd hm
      obtain ⟨j_law_kept, hj, hd⟩ := fSets hd
      refine st_setL (L1 := [_]) ((eb_call (em2 (x_ixL (eb_v rfl (mv_rp A (List.Mem.tail _ (List.Mem.head _)) al_law_kept)) (eb_v rfl (Rp.mono A.ex r_law_at))) (x_ixL (eb_v rfl (mv_rp A (List.Mem.tail _ (List.Mem.head _)) al_law_kept)) (eb_v rfl (Rp.mono A.ex r_law_other)))))).own hy197 (slot_ref rfl) (eb_v rfl (Rp.mono A.ex r_law_at)) hy198 A (by rw [al_law_kept.len]; exact hj) fun v_y197 G199 H200 g e A r_y197 => ?_
      replace r_law_cell := Rp.mono g r_law_cell
      replace r_law_most := Rp.mono g r_law_most
      replace al_law_kept := al_law_kept.mono fun _ _ => Rp.mono g
      replace al_law_truths := al_law_truths.mono fun _ _ => Rp.mono g
      replace r_law_begins := Rp.mono g r_law_begins
      replace r_law_way := Rp.mono g r_law_way
      replace r_law_at := Rp.mono g r_law_at
      replace r_law_other := Rp.mono g r_law_other
      replace r_law_deed_here := Rp.mono g r_law_deed_here
      replace g0 := g0.trans g
      replace e0 := e0.trans e
      replace al_law_kept := Al.set r_y197 j_law_kept al_law_kept
      rw [← hd] at al_law_kept
      replace e0 := Gx.mutA e0 ne0_law_kept A
      generalize upd _ p_law_kept (.lst _) = H201 at A e0 ⊢
      obtain ⟨y203, hy203, hm⟩ := bnd hm
      obtain ⟨y204, hy204, hm⟩ := bnd hm
      obtain ⟨x_law_truths, hd, hm⟩ := bnd hm
      obtain ⟨j_law_truths, hj, hd⟩ := fSets hd
      refine st_setL (L1 := []) ((x_lc (i_zip (es_b (x_ixL (eb_v rfl (mv_rp A (List.Mem.head _) al_law_truths)) (eb_v rfl (Rp.mono A.ex r_law_at)))) (es_b (x_ixL (eb_v rfl (mv_rp A (List.Mem.head _) al_law_truths)) (eb_v rfl (Rp.mono A.ex r_law_other))))) (tg_p tg_n tg_n) (bi_p (bi_n (by decide)) (bi_n (by decide))) (fun y202 σc Hc gh202 hb202 => by obtain ⟨_, ⟨c202v_law_mine, c202r_law_mine, rfl⟩, ⟨c202v_law_its, c202r_law_its, rfl⟩⟩ := hb202; exact t_yes) (fun y202 σc Hc gh202 hb202 => by obtain ⟨_, ⟨c202v_law_mine, c202r_law_mine, rfl⟩, ⟨c202v_law_its, c202r_law_its, rfl⟩⟩ := hb202; exact (eb_or (eb_v rfl c202r_law_mine) (eb_v rfl c202r_law_its))))).own hy203 (slot_ref rfl) (eb_v rfl (Rp.mono A.ex r_law_at)) hy204 A (by rw [al_law_truths.len]; exact hj) fun v_y203 G205 H206 g e A r_y203 => ?_
      replace r_law_cell := Rp.mono g r_law_cell
      replace r_law_most := Rp.mono g r_law_most
      replace al_law_kept := al_law_kept.mono fun _ _ => Rp.mono g
      replace al_law_truths := al_law_truths.mono fun _ _ => Rp.mono g
      replace r_law_begins := Rp.mono g r_law_begins
      replace r_law_way := Rp.mono g r_law_way
      replace r_law_at := Rp.mono g r_law_at
      replace r_law_other := Rp.mono g r_law_other
      replace r_law_deed_here := Rp.mono g r_law_deed_here
      replace g0 := g0.trans g
      replace e0 := e0.trans e
      replace al_law_truths := Al.set r_y203 j_law_truths al_law_truths
      rw [← hd] at al_law_truths
      replace e0 := Gx.mutA e0 ne0_law_truths A
      generalize upd _ p_law_truths (.lst _) = H207 at A e0 ⊢
      obtain ⟨y208, hy208, hm⟩ := bnd hm
      obtain rfl := Option.some.inj hm
      exact sr_o ((eb_v rfl (Rp.mono A.ex r_law_at))).own hy208 A fun w G2 H2 g e A2 r => q w G2 H2 _ _ (g0.trans g) (e0.trans e) A2 r (al_law_kept.mono fun _ _ => Rp.mono g) (al_law_truths.mono fun _ _ => Rp.mono g)
    · subst eb195
      replace hm := itf hm
      replace A := A.grow e
      replace e0 := e0.trans e
      obtain ⟨b209, hb209, hm⟩ := bnd hm
      refine st_if (et_test (x_eq (by decide) (eb_v rfl (Rp.mono A.ex r_law_deed_here)) (eb_int (K := K)))) hb209 (fun eb209 H210 e => ?_) (fun eb209 H210 e => ?_)
      · subst eb209
        replace hm := itt hm
        replace A := A.grow e
        replace e0 := e0.trans e
        obtain ⟨y211, hy211, hm⟩ := bnd hm
        obtain ⟨y212, hy212, hm⟩ := bnd hm
        obtain ⟨x_law_kept, hd, hm⟩ := bnd hm
        obtain ⟨j_law_kept, hj, hd⟩ := fSets hd
        refine st_setL (L1 := [_]) ((eb_call (em2 (x_ixL (eb_v rfl (mv_rp A (List.Mem.tail _ (List.Mem.head _)) al_law_kept)) (eb_v rfl (Rp.mono A.ex r_law_at))) (x_ixL (eb_v rfl (mv_rp A (List.Mem.tail _ (List.Mem.head _)) al_law_kept)) (eb_v rfl (Rp.mono A.ex r_law_other)))))).own hy211 (slot_ref rfl) (eb_v rfl (Rp.mono A.ex r_law_at)) hy212 A (by rw [al_law_kept.len]; exact hj) fun v_y211 G213 H214 g e A r_y211 => ?_
        replace r_law_cell := Rp.mono g r_law_cell
        replace r_law_most := Rp.mono g r_law_most
        replace al_law_kept := al_law_kept.mono fun _ _ => Rp.mono g
        replace al_law_truths := al_law_truths.mono fun _ _ => Rp.mono g
        replace r_law_begins := Rp.mono g r_law_begins
        replace r_law_way := Rp.mono g r_law_way
        replace r_law_at := Rp.mono g r_law_at
        replace r_law_other := Rp.mono g r_law_other
        replace r_law_deed_here := Rp.mono g r_law_deed_here
        replace g0 := g0.trans g
        replace e0 := e0.trans e
        replace al_law_kept := Al.set r_y211 j_law_kept al_law_kept
        rw [← hd] at al_law_kept
        replace e0 := Gx.mutA e0 ne0_law_kept A
        generalize upd _ p_law_kept (.lst _) = H215 at A e0 ⊢
        obtain ⟨y217, hy217, hm⟩ := bnd hm
        obtain ⟨y218, hy218, hm⟩ := bnd hm
        obtain ⟨x_law_truths, hd, hm⟩ := bnd hm
        obtain ⟨j_law_truths, hj, hd⟩ := fSets hd
        refine st_setL (L1 := []) ((x_lc (i_zip (es_b (x_ixL (eb_v rfl (mv_rp A (List.Mem.head _) al_law_truths)) (eb_v rfl (Rp.mono A.ex r_law_at)))) (es_b (x_ixL (eb_v rfl (mv_rp A (List.Mem.head _) al_law_truths)) (eb_v rfl (Rp.mono A.ex r_law_other))))) (tg_p tg_n tg_n) (bi_p (bi_n (by decide)) (bi_n (by decide))) (fun y216 σc Hc gh216 hb216 => by obtain ⟨_, ⟨c216v_law_mine, c216r_law_mine, rfl⟩, ⟨c216v_law_its, c216r_law_its, rfl⟩⟩ := hb216; exact t_yes) (fun y216 σc Hc gh216 hb216 => by obtain ⟨_, ⟨c216v_law_mine, c216r_law_mine, rfl⟩, ⟨c216v_law_its, c216r_law_its, rfl⟩⟩ := hb216; exact (eb_and (eb_v rfl c216r_law_mine) (eb_v rfl c216r_law_its))))).own hy217 (slot_ref rfl) (eb_v rfl (Rp.mono A.ex r_law_at)) hy218 A (by rw [al_law_truths.len]; exact hj) fun v_y217 G219 H220 g e A r_y217 => ?_
        replace r_law_cell := Rp.mono g r_law_cell
        replace r_law_most := Rp.mono g r_law_most
        replace al_law_kept := al_law_kept.mono fun _ _ => Rp.mono g
        replace al_law_truths := al_law_truths.mono fun _ _ => Rp.mono g
        replace r_law_begins := Rp.mono g r_law_begins
        replace r_law_way := Rp.mono g r_law_way
        replace r_law_at := Rp.mono g r_law_at
        replace r_law_other := Rp.mono g r_law_other
        replace r_law_deed_here := Rp.mono g r_law_deed_here
        replace g0 := g0.trans g
        replace e0 := e0.trans e
        replace al_law_truths := Al.set r_y217 j_law_truths al_law_truths
        rw [← hd] at al_law_truths
        replace e0 := Gx.mutA e0 ne0_law_truths A
        generalize upd _ p_law_truths (.lst _) = H221 at A e0 ⊢
        obtain ⟨y222, hy222, hm⟩ := bnd hm
        obtain rfl := Option.some.inj hm
        exact sr_o ((eb_v rfl (Rp.mono A.ex r_law_at))).own hy222 A fun w G2 H2 g e A2 r => q w G2 H2 _ _ (g0.trans g) (e0.trans e) A2 r (al_law_kept.mono fun _ _ => Rp.mono g) (al_law_truths.mono fun _ _ => Rp.mono g)
      · subst eb209
        replace hm := itf hm
        replace A := A.grow e
        replace e0 := e0.trans e
        obtain ⟨b223, hb223, hm⟩ := bnd hm
        refine st_if (et_test (x_eq (by decide) (eb_v rfl (Rp.mono A.ex r_law_deed_here)) (eb_int (K := K)))) hb223 (fun eb223 H224 e => ?_) (fun eb223 H224 e => ?_)
        · subst eb223
          replace hm := itt hm
          replace A := A.grow e
          replace e0 := e0.trans e
          obtain ⟨y225, hy225, hm⟩ := bnd hm
          obtain ⟨y226, hy226, hm⟩ := bnd hm
          obtain ⟨x_law_kept, hd, hm⟩ := bnd hm
          obtain ⟨j_law_kept, hj, hd⟩ := fSets hd
          refine st_setL (L1 := [_]) ((eb_call (em2 (x_ixL (eb_v rfl (mv_rp A (List.Mem.tail _ (List.Mem.head _)) al_law_kept)) (eb_v rfl (Rp.mono A.ex r_law_at))) (x_ixL (eb_v rfl (mv_rp A (List.Mem.tail _ (List.Mem.head _)) al_law_kept)) (eb_v rfl (Rp.mono A.ex r_law_other)))))).own hy225 (slot_ref rfl) (eb_v rfl (Rp.mono A.ex r_law_at)) hy226 A (by rw [al_law_kept.len]; exact hj) fun v_y225 G227 H228 g e A r_y225 => ?_
          replace r_law_cell := Rp.mono g r_law_cell
          replace r_law_most := Rp.mono g r_law_most
          replace al_law_kept := al_law_kept.mono fun _ _ => Rp.mono g
          replace al_law_truths := al_law_truths.mono fun _ _ => Rp.mono g
          replace r_law_begins := Rp.mono g r_law_begins
          replace r_law_way := Rp.mono g r_law_way
          replace r_law_at := Rp.mono g r_law_at
          replace r_law_other := Rp.mono g r_law_other
          replace r_law_deed_here := Rp.mono g r_law_deed_here
          replace g0 := g0.trans g
          replace e0 := e0.trans e
          replace al_law_kept := Al.set r_y225 j_law_kept al_law_kept
          rw [← hd] at al_law_kept
          replace e0 := Gx.mutA e0 ne0_law_kept A
          generalize upd _ p_law_kept (.lst _) = H229 at A e0 ⊢
          obtain ⟨y231, hy231, hm⟩ := bnd hm
          obtain ⟨y232, hy232, hm⟩ := bnd hm
          obtain ⟨x_law_truths, hd, hm⟩ := bnd hm
          obtain ⟨j_law_truths, hj, hd⟩ := fSets hd
          refine st_setL (L1 := []) ((x_lc (i_zip (es_b (x_ixL (eb_v rfl (mv_rp A (List.Mem.head _) al_law_truths)) (eb_v rfl (Rp.mono A.ex r_law_at)))) (es_b (x_ixL (eb_v rfl (mv_rp A (List.Mem.head _) al_law_truths)) (eb_v rfl (Rp.mono A.ex r_law_other))))) (tg_p tg_n tg_n) (bi_p (bi_n (by decide)) (bi_n (by decide))) (fun y230 σc Hc gh230 hb230 => by obtain ⟨_, ⟨c230v_law_mine, c230r_law_mine, rfl⟩, ⟨c230v_law_its, c230r_law_its, rfl⟩⟩ := hb230; exact t_yes) (fun y230 σc Hc gh230 hb230 => by obtain ⟨_, ⟨c230v_law_mine, c230r_law_mine, rfl⟩, ⟨c230v_law_its, c230r_law_its, rfl⟩⟩ := hb230; exact (eb_and (eb_v rfl c230r_law_mine) (eb_not (eb_v rfl c230r_law_its)))))).own hy231 (slot_ref rfl) (eb_v rfl (Rp.mono A.ex r_law_at)) hy232 A (by rw [al_law_truths.len]; exact hj) fun v_y231 G233 H234 g e A r_y231 => ?_
          replace r_law_cell := Rp.mono g r_law_cell
          replace r_law_most := Rp.mono g r_law_most
          replace al_law_kept := al_law_kept.mono fun _ _ => Rp.mono g
          replace al_law_truths := al_law_truths.mono fun _ _ => Rp.mono g
          replace r_law_begins := Rp.mono g r_law_begins
          replace r_law_way := Rp.mono g r_law_way
          replace r_law_at := Rp.mono g r_law_at
          replace r_law_other := Rp.mono g r_law_other
          replace r_law_deed_here := Rp.mono g r_law_deed_here
          replace g0 := g0.trans g
          replace e0 := e0.trans e
          replace al_law_truths := Al.set r_y231 j_law_truths al_law_truths
          rw [← hd] at al_law_truths
          replace e0 := Gx.mutA e0 ne0_law_truths A
          generalize upd _ p_law_truths (.lst _) = H235 at A e0 ⊢
          obtain ⟨y236, hy236, hm⟩ := bnd hm
          obtain rfl := Option.some.inj hm
          exact sr_o ((eb_v rfl (Rp.mono A.ex r_law_at))).own hy236 A fun w G2 H2 g e A2 r => q w G2 H2 _ _ (g0.trans g) (e0.trans e) A2 r (al_law_kept.mono fun _ _ => Rp.mono g) (al_law_truths.mono fun _ _ => Rp.mono g)
        · subst eb223
          replace hm := itf hm
          replace A := A.grow e
          replace e0 := e0.trans e
          obtain ⟨b237, hb237, hm⟩ := bnd hm
          refine st_if (et_test (x_eq (by decide) (eb_v rfl (Rp.mono A.ex r_law_deed_here)) (eb_int (K := K)))) hb237 (fun eb237 H238 e => ?_) (fun eb237 H238 e => ?_)
          · subst eb237
            replace hm := itt hm
            replace A := A.grow e
            replace e0 := e0.trans e
            obtain ⟨y239, hy239, hm⟩ := bnd hm
            obtain ⟨y240, hy240, hm⟩ := bnd hm
            obtain ⟨x_law_kept, hd, hm⟩ := bnd hm
            obtain ⟨j_law_kept, hj, hd⟩ := fSets hd
            refine st_setL (L1 := [_]) ((eb_call (em2 (eb_v rfl (Rp.mono A.ex r_law_most)) (x_ixL (eb_v rfl (mv_rp A (List.Mem.tail _ (List.Mem.head _)) al_law_kept)) (eb_v rfl (Rp.mono A.ex r_law_at)))))).own hy239 (slot_ref rfl) (eb_v rfl (Rp.mono A.ex r_law_at)) hy240 A (by rw [al_law_kept.len]; exact hj) fun v_y239 G241 H242 g e A r_y239 => ?_
            replace r_law_cell := Rp.mono g r_law_cell
            replace r_law_most := Rp.mono g r_law_most
            replace al_law_kept := al_law_kept.mono fun _ _ => Rp.mono g
            replace al_law_truths := al_law_truths.mono fun _ _ => Rp.mono g
            replace r_law_begins := Rp.mono g r_law_begins
            replace r_law_way := Rp.mono g r_law_way
            replace r_law_at := Rp.mono g r_law_at
            replace r_law_other := Rp.mono g r_law_other
            replace r_law_deed_here := Rp.mono g r_law_deed_here
            replace g0 := g0.trans g
            replace e0 := e0.trans e
            replace al_law_kept := Al.set r_y239 j_law_kept al_law_kept
            rw [← hd] at al_law_kept
            replace e0 := Gx.mutA e0 ne0_law_kept A
            generalize upd _ p_law_kept (.lst _) = H243 at A e0 ⊢
            obtain ⟨y245, hy245, hm⟩ := bnd hm
            obtain ⟨y246, hy246, hm⟩ := bnd hm
            obtain ⟨x_law_truths, hd, hm⟩ := bnd hm
            obtain ⟨j_law_truths, hj, hd⟩ := fSets hd
            refine st_setL (L1 := []) ((x_lc (i_list (es_b (x_ixL (eb_v rfl (mv_rp A (List.Mem.head _) al_law_truths)) (eb_v rfl (Rp.mono A.ex r_law_at))))) tg_n (bi_n (by decide)) (fun y244 σc Hc gh244 hb244 => by obtain ⟨c244v_law_mine, c244r_law_mine, rfl⟩ := hb244; exact t_yes) (fun y244 σc Hc gh244 hb244 => by obtain ⟨c244v_law_mine, c244r_law_mine, rfl⟩ := hb244; exact (eb_not (eb_v rfl c244r_law_mine))))).own hy245 (slot_ref rfl) (eb_v rfl (Rp.mono A.ex r_law_at)) hy246 A (by rw [al_law_truths.len]; exact hj) fun v_y245 G247 H248 g e A r_y245 => ?_
            replace r_law_cell := Rp.mono g r_law_cell
            replace r_law_most := Rp.mono g r_law_most
            replace al_law_kept := al_law_kept.mono fun _ _ => Rp.mono g
            replace al_law_truths := al_law_truths.mono fun _ _ => Rp.mono g
            replace r_law_begins := Rp.mono g r_law_begins
            replace r_law_way := Rp.mono g r_law_way
            replace r_law_at := Rp.mono g r_law_at
            replace r_law_other := Rp.mono g r_law_other
            replace r_law_deed_here := Rp.mono g r_law_deed_here
            replace g0 := g0.trans g
            replace e0 := e0.trans e
            replace al_law_truths := Al.set r_y245 j_law_truths al_law_truths
            rw [← hd] at al_law_truths
            replace e0 := Gx.mutA e0 ne0_law_truths A
            generalize upd _ p_law_truths (.lst _) = H249 at A e0 ⊢
            obtain ⟨y250, hy250, hm⟩ := bnd hm
            obtain rfl := Option.some.inj hm
            exact sr_o ((eb_v rfl (Rp.mono A.ex r_law_at))).own hy250 A fun w G2 H2 g e A2 r => q w G2 H2 _ _ (g0.trans g) (e0.trans e) A2 r (al_law_kept.mono fun _ _ => Rp.mono g) (al_law_truths.mono fun _ _ => Rp.mono g)
          · subst eb237
            replace hm := itf hm
            replace A := A.grow e
            replace e0 := e0.trans e
            obtain ⟨b251, hb251, hm⟩ := bnd hm
            refine st_if (et_and (et_test (x_eq (by decide) (eb_v rfl (Rp.mono A.ex r_law_deed_here)) (eb_int (K := K)))) (et_test (x_eq (by decide) (x_mod (x_div (eb_v rfl (Rp.mono A.ex r_law_way)) (eb_int (K := K))) (eb_int (K := K))) (eb_int (K := K))))) hb251 (fun eb251 H252 e => ?_) (fun eb251 H252 e => ?_)
            · subst eb251
              replace hm := itt hm
              replace A := A.grow e
              replace e0 := e0.trans e
              obtain ⟨y253, hy253, hm⟩ := bnd hm
              obtain ⟨y254, hy254, hm⟩ := bnd hm
              obtain ⟨x_law_kept, hd, hm⟩ := bnd hm
              obtain ⟨j_law_kept, hj, hd⟩ := fSets hd
              refine st_setL (L1 := [_]) ((x_ixL ((x_lst (l_cons (x_tup (l_cons (x_pair (eb_int (K := K)) (eb_v rfl (Rp.mono A.ex r_law_most))) (l_nil (K := K)))) (l_cons (x_tup (l_nil (K := K))) (l_nil (K := K)))))).b (x_mod (x_div (eb_v rfl (Rp.mono A.ex r_law_way)) (eb_int (K := K))) (eb_int (K := K))))).own hy253 (slot_ref rfl) (eb_v rfl (Rp.mono A.ex r_law_at)) hy254 A (by rw [al_law_kept.len]; exact hj) fun v_y253 G255 H256 g e A r_y253 => ?_
              replace r_law_cell := Rp.mono g r_law_cell
              replace r_law_most := Rp.mono g r_law_most
              replace al_law_kept := al_law_kept.mono fun _ _ => Rp.mono g
              replace al_law_truths := al_law_truths.mono fun _ _ => Rp.mono g
              replace r_law_begins := Rp.mono g r_law_begins
              replace r_law_way := Rp.mono g r_law_way
              replace r_law_at := Rp.mono g r_law_at
              replace r_law_other := Rp.mono g r_law_other
              replace r_law_deed_here := Rp.mono g r_law_deed_here
              replace g0 := g0.trans g
              replace e0 := e0.trans e
              replace al_law_kept := Al.set r_y253 j_law_kept al_law_kept
              rw [← hd] at al_law_kept
              replace e0 := Gx.mutA e0 ne0_law_kept A
              generalize upd _ p_law_kept (.lst _) = H257 at A e0 ⊢
              obtain ⟨y259, hy259, hm⟩ := bnd hm
              obtain ⟨y260, hy260, hm⟩ := bnd hm
              obtain ⟨x_law_truths, hd, hm⟩ := bnd hm
              obtain ⟨j_law_truths, hj, hd⟩ := fSets hd
              refine st_setL (L1 := []) ((x_lc (i_list (es_b (eb_v rfl (Rp.mono A.ex r_law_begins)))) tg_n (bi_n (by decide)) (fun y258 σc Hc gh258 hb258 => by obtain ⟨c258v_law_begin, c258r_law_begin, rfl⟩ := hb258; exact t_yes) (fun y258 σc Hc gh258 hb258 => by obtain ⟨c258v_law_begin, c258r_law_begin, rfl⟩ := hb258; exact (x_eq (by decide) (x_mod (x_div (eb_v rfl (Rp.mono gh258 (Rp.mono A.ex r_law_way))) (eb_int (K := K))) (eb_int (K := K))) (eb_int (K := K)))))).own hy259 (slot_ref rfl) (eb_v rfl (Rp.mono A.ex r_law_at)) hy260 A (by rw [al_law_truths.len]; exact hj) fun v_y259 G261 H262 g e A r_y259 => ?_
              replace r_law_cell := Rp.mono g r_law_cell
              replace r_law_most := Rp.mono g r_law_most
              replace al_law_kept := al_law_kept.mono fun _ _ => Rp.mono g
              replace al_law_truths := al_law_truths.mono fun _ _ => Rp.mono g
              replace r_law_begins := Rp.mono g r_law_begins
              replace r_law_way := Rp.mono g r_law_way
              replace r_law_at := Rp.mono g r_law_at
              replace r_law_other := Rp.mono g r_law_other
              replace r_law_deed_here := Rp.mono g r_law_deed_here
              replace g0 := g0.trans g
              replace e0 := e0.trans e
              replace al_law_truths := Al.set r_y259 j_law_truths al_law_truths
              rw [← hd] at al_law_truths
              replace e0 := Gx.mutA e0 ne0_law_truths A
              generalize upd _ p_law_truths (.lst _) = H263 at A e0 ⊢
              obtain ⟨y264, hy264, hm⟩ := bnd hm
              obtain rfl := Option.some.inj hm
              exact sr_o ((eb_v rfl (Rp.mono A.ex r_law_at))).own hy264 A fun w G2 H2 g e A2 r => q w G2 H2 _ _ (g0.trans g) (e0.trans e) A2 r (al_law_kept.mono fun _ _ => Rp.mono g) (al_law_truths.mono fun _ _ => Rp.mono g)
            · subst eb251
              replace hm := itf hm
              replace A := A.grow e
              replace e0 := e0.trans e
              obtain ⟨x_law_first, hx, hm⟩ := bnd hm
              refine st_asg ((x_mod (eb_call (em2 (eb_v rfl (Rp.mono A.ex r_law_cell)) (eb_int (K := K)))) (x_lenL (eb_v rfl (Rp.mono A.ex r_law_begins))))).own hx A fun v_law_first G265 H266 g e A r_law_first => ?_
              replace r_law_cell := Rp.mono g r_law_cell
              replace r_law_most := Rp.mono g r_law_most
              replace al_law_kept := al_law_kept.mono fun _ _ => Rp.mono g
              replace al_law_truths := al_law_truths.mono fun _ _ => Rp.mono g
              replace r_law_begins := Rp.mono g r_law_begins
              replace r_law_way := Rp.mono g r_law_way
              replace r_law_at := Rp.mono g r_law_at
              replace r_law_other := Rp.mono g r_law_other
              replace r_law_deed_here := Rp.mono g r_law_deed_here
              replace g0 := g0.trans g
              replace e0 := e0.trans e
              obtain ⟨x_law_last, hx, hm⟩ := bnd hm
              refine st_asg ((x_min (x_sub (x_lenL (eb_v rfl (Rp.mono A.ex r_law_begins))) (eb_int (K := K))) (x_add (eb_v rfl (Rp.mono A.ex r_law_first)) (x_mod (eb_call (em2 (eb_v rfl (Rp.mono A.ex r_law_cell)) (eb_int (K := K)))) (eb_int (K := K)))))).own hx A fun v_law_last G267 H268 g e A r_law_last => ?_
              replace r_law_cell := Rp.mono g r_law_cell
              replace r_law_most := Rp.mono g r_law_most
              replace al_law_kept := al_law_kept.mono fun _ _ => Rp.mono g
              replace al_law_truths := al_law_truths.mono fun _ _ => Rp.mono g
              replace r_law_begins := Rp.mono g r_law_begins
              replace r_law_way := Rp.mono g r_law_way
              replace r_law_at := Rp.mono g r_law_at
              replace r_law_other := Rp.mono g r_law_other
              replace r_law_deed_here := Rp.mono g r_law_deed_here
              replace r_law_first := Rp.mono g r_law_first
              replace g0 := g0.trans g
              replace e0 := e0.trans e
              obtain ⟨x_law_stretch, hx, hm⟩ := bnd hm
              refine st_asg ((x_pair (x_ixL (eb_v rfl (Rp.mono A.ex r_law_begins)) (eb_v rfl (Rp.mono A.ex r_law_first))) (x_sub (x_ixL ((x_cat (eb_v rfl (Rp.mono A.ex r_law_begins)) ((x_lst (l_cons (x_add (eb_v rfl (Rp.mono A.ex r_law_most)) (eb_int (K := K))) (l_nil (K := K))))).b)).b (x_add (eb_v rfl (Rp.mono A.ex r_law_last)) (eb_int (K := K)))) (eb_int (K := K))))).own hx A fun v_law_stretch G269 H270 g e A r_law_stretch => ?_
              replace r_law_cell := Rp.mono g r_law_cell
              replace r_law_most := Rp.mono g r_law_most
              replace al_law_kept := al_law_kept.mono fun _ _ => Rp.mono g
              replace al_law_truths := al_law_truths.mono fun _ _ => Rp.mono g
              replace r_law_begins := Rp.mono g r_law_begins
              replace r_law_way := Rp.mono g r_law_way
              replace r_law_at := Rp.mono g r_law_at
              replace r_law_other := Rp.mono g r_law_other
              replace r_law_deed_here := Rp.mono g r_law_deed_here
              replace r_law_first := Rp.mono g r_law_first
              replace r_law_last := Rp.mono g r_law_last
              replace g0 := g0.trans g
              replace e0 := e0.trans e
              obtain ⟨y271, hy271, hm⟩ := bnd hm
              obtain ⟨y272, hy272, hm⟩ := bnd hm
              obtain ⟨x_law_kept, hd, hm⟩ := bnd hm
              obtain ⟨j_law_kept, hj, hd⟩ := fSets hd
              refine st_setL (L1 := [_]) ((eb_call (em2 (eb_v rfl (Rp.mono A.ex r_law_most)) ((x_cat ((x_listT (x_ixL (eb_v rfl (mv_rp A (List.Mem.tail _ (List.Mem.head _)) al_law_kept)) (eb_v rfl (Rp.mono A.ex r_law_at))))).b ((x_lst (l_cons (eb_v rfl (Rp.mono A.ex r_law_stretch)) (l_nil (K := K))))).b)).b))).own hy271 (slot_ref rfl) (eb_v rfl (Rp.mono A.ex r_law_at)) hy272 A (by rw [al_law_kept.len]; exact hj) fun v_y271 G273 H274 g e A r_y271 => ?_
              replace r_law_cell := Rp.mono g r_law_cell
              replace r_law_most := Rp.mono g r_law_most
              replace al_law_kept := al_law_kept.mono fun _ _ => Rp.mono g
              replace al_law_truths := al_law_truths.mono fun _ _ => Rp.mono g
              replace r_law_begins := Rp.mono g r_law_begins
              replace r_law_way := Rp.mono g r_law_way
              replace r_law_at := Rp.mono g r_law_at
              replace r_law_other := Rp.mono g r_law_other
              replace r_law_deed_here := Rp.mono g r_law_deed_here
              replace r_law_first := Rp.mono g r_law_first
              replace r_law_last := Rp.mono g r_law_last
              replace r_law_stretch := Rp.mono g r_law_stretch
              replace g0 := g0.trans g
              replace e0 := e0.trans e
              replace al_law_kept := Al.set r_y271 j_law_kept al_law_kept
              rw [← hd] at al_law_kept
              replace e0 := Gx.mutA e0 ne0_law_kept A
              generalize upd _ p_law_kept (.lst _) = H275 at A e0 ⊢
              obtain ⟨y277, hy277, hm⟩ := bnd hm
              obtain ⟨y278, hy278, hm⟩ := bnd hm
              obtain ⟨x_law_truths, hd, hm⟩ := bnd hm
              obtain ⟨j_law_truths, hj, hd⟩ := fSets hd
              refine st_setL (L1 := []) ((x_lc (i_enum (es_b (x_ixL (eb_v rfl (mv_rp A (List.Mem.head _) al_law_truths)) (eb_v rfl (Rp.mono A.ex r_law_at))))) (tg_p tg_n tg_n) (bi_p (bi_n (by decide)) (bi_n (by decide))) (fun y276 σc Hc gh276 hb276 => by obtain ⟨_, ⟨c276v_law_k, c276r_law_k, rfl⟩, ⟨c276v_law_mine, c276r_law_mine, rfl⟩⟩ := hb276; exact t_yes) (fun y276 σc Hc gh276 hb276 => by obtain ⟨_, ⟨c276v_law_k, c276r_law_k, rfl⟩, ⟨c276v_law_mine, c276r_law_mine, rfl⟩⟩ := hb276; exact (eb_or (eb_v rfl c276r_law_mine) (x_lele (eb_v rfl (Rp.mono gh276 (Rp.mono A.ex r_law_first))) (eb_v rfl c276r_law_k) (eb_v rfl (Rp.mono gh276 (Rp.mono A.ex r_law_last)))))))).own hy277 (slot_ref rfl) (eb_v rfl (Rp.mono A.ex r_law_at)) hy278 A (by rw [al_law_truths.len]; exact hj) fun v_y277 G279 H280 g e A r_y277 => ?_
              replace r_law_cell := Rp.mono g r_law_cell
              replace r_law_most := Rp.mono g r_law_most
              replace al_law_kept := al_law_kept.mono fun _ _ => Rp.mono g
              replace al_law_truths := al_law_truths.mono fun _ _ => Rp.mono g
              replace r_law_begins := Rp.mono g r_law_begins
              replace r_law_way := Rp.mono g r_law_way
              replace r_law_at := Rp.mono g r_law_at
              replace r_law_other := Rp.mono g r_law_other
              replace r_law_deed_here := Rp.mono g r_law_deed_here
              replace r_law_first := Rp.mono g r_law_first
              replace r_law_last := Rp.mono g r_law_last
              replace r_law_stretch := Rp.mono g r_law_stretch
              replace g0 := g0.trans g
              replace e0 := e0.trans e
              replace al_law_truths := Al.set r_y277 j_law_truths al_law_truths
              rw [← hd] at al_law_truths
              replace e0 := Gx.mutA e0 ne0_law_truths A
              generalize upd _ p_law_truths (.lst _) = H281 at A e0 ⊢
              obtain ⟨y282, hy282, hm⟩ := bnd hm
              obtain rfl := Option.some.inj hm
              exact sr_o ((eb_v rfl (Rp.mono A.ex r_law_at))).own hy282 A fun w G2 H2 g e A2 r => q w G2 H2 _ _ (g0.trans g) (e0.trans e) A2 r (al_law_kept.mono fun _ _ => Rp.mono g) (al_law_truths.mono fun _ _ => Rp.mono g)
/-! _law_asked -/
def m_law_asked (x_law_most : Int) (x_law_one : (Tl (Int × Int))) (x_law_truths : (List Bool)) (x_law_begins : (List Int)) (x_law_number : Int) : Option Bool := ((o2 fCat (o3 fCut (some x_law_begins) (((some (1 : Int))).map some) (some none)) (o1 szOk (o2 fCons (o2 fAdd (some x_law_most) (some (1 : Int))) (some ([] : List Int)))))).bind fun x_law_ends => ((o2 fNe (o1 m_size (some x_law_one)) (o1 fSum (oComp (fun (y285 : (T3 Int Int Bool)) => (some y285.c)) (fun (y285 : (T3 Int Int Bool)) => (o2 fSub (some y285.b) (some y285.a))) (o3 fZip3 (some x_law_begins) (some x_law_ends) (some x_law_truths)))))).bind fun b286 => if b286 = true then (some false) else (((o2 fNe (o1 m_least (some x_law_one)) (o1 fMinN (oComp (fun (y288 : (Int × Bool)) => (some y288.2)) (fun (y288 : (Int × Bool)) => (some y288.1)) (o2 fZip (some x_law_begins) (some x_law_truths)))))).bind fun b289 => if b289 = true then (some false) else (((o2 ix (oComp (fun (y291 : (Int × Bool)) => (o2 fLe (some y291.1) (some x_law_number))) (fun (y291 : (Int × Bool)) => (some y291.2)) (o2 fZip (some x_law_begins) (some x_law_truths))) (o1 fNeg (some (1 : Int))))).bind fun x_law_due => ((o2 m_has (some x_law_one) (some x_law_number))).bind fun x_law_found => (oAnd (o1 (fIs true) (some x_law_found)) (o2 fEq (some x_law_found) (some x_law_due)))))
set_option maxHeartbeats 4000000 in
theorem ok_law_asked {P : Program} {w : World} {K : Fg} {mg : Str → Option Value} {base : Heap} (T : Txt K mg) : FnOk P w K mg base CX0 2 T.a_law_asked T.d_law_asked ["_law_most", "_law_one", "_law_truths", "_law_begins", "_law_number"] (PSb K (A5 K m_law_asked)) := by
  refine T.F_law_asked.ok sc_law_asked (fun vs H Q E h => ?_) (fun cdv A0 outer s H vs Q E hr h => ?_)
  · obtain ⟨r, ⟨v_law_most, v_law_one, v_law_truths, v_law_begins, v_law_number, x_law_most, x_law_one, x_law_truths, x_law_begins, x_law_number, rfl, r_law_most, r_law_one, r_law_truths, r_law_begins, r_law_number, hm⟩, q⟩ := h
    rfl
  · obtain ⟨r_fn, ⟨v_law_most, v_law_one, v_law_truths, v_law_begins, v_law_number, x_law_most, x_law_one, x_law_truths, x_law_begins, x_law_number, rfl, r_law_most, r_law_one, r_law_truths, r_law_begins, r_law_number, hm⟩, q⟩ := h
    refine ⟨_, (pss_cons (ps_set (i := 5) sc_law_asked.nd rfl (by first | exact Or.inl rfl | exact Or.inr rfl) (pe_op op_cat (pe_slice (slL_K (K := K) rfl) (pv 3) (po_some pe_int) po_none) (pe_lst (pa_cons (pe_op op_add (pv 0) pe_int) pa_nil)))) (pss_cons (ps_if (pt_cmpR (opNe_K (K := K) rfl hr.units) (pe_call (ok_size T) (hr.mono (by decide)) (by rfl) T.g_size T.F_size.kp T.b_size .nil pass0 (pa_cons (pv 1) pa_nil)) (pe_callB (cr_sum rfl) (by rfl) T.n_sum bb_sum (pa_cons (pe_lc (own := [("_law_begin", 8), ("_law_end", 9), ("_law_truth", 10)]) (g := (gTup K 3 (gCons (gName 8) (gCons (gName 9) (gCons (gName 10) gNil))))) rfl sc_law_asked.nd (pi_zip3 (by rfl) T.n_zip (pa_cons (pv 3) (pa_cons (pv 5) (pa_cons (pv 2) pa_nil)))) (blkOk_by (N := ["_law_most", "_law_one", "_law_truths", "_law_begins", "_law_number", "_law_ends", "_law_due", "_law_found", "_law_begin", "_law_end", "_law_truth"]) (sc := defScope s_law_asked) (by decide +kernel)) (fun _ _ _ _ _ => by exact (pg_tup rfl (pgs_cons (pg_name (i := 8) sc_law_asked.nd rfl (by first | exact Or.inl rfl | exact Or.inr rfl)) (pgs_cons (pg_name (i := 9) sc_law_asked.nd rfl (by first | exact Or.inl rfl | exact Or.inr rfl)) (pgs_cons (pg_name (i := 10) sc_law_asked.nd rfl (by first | exact Or.inl rfl | exact Or.inr rfl)) pgs_nil))))) (fun _ _ _ _ _ => by exact (pts_one (pt_val (pv 10)))) (fun _ _ _ _ _ => by exact (pe_op op_sub (pv 9) (pv 8)))) pa_nil)) (nomark _)) (pss_cons (ps_ret pe_bl) pss_nil) pss_nil) (pss_cons (ps_if (pt_cmpR (opNe_K (K := K) rfl hr.units) (pe_call (ok_least T) (hr.mono (by decide)) (by rfl) T.g_least T.F_least.kp T.b_least .nil pass0 (pa_cons (pv 1) pa_nil)) (pe_callBK (cr_minD (K := K) rfl rfl hr.units) (by rfl) T.n_min bb_min (pa_cons (pe_lc (own := [("_law_begin", 8), ("_law_truth", 10)]) (g := (gTup K 2 (gCons (gName 8) (gCons (gName 10) gNil)))) rfl sc_law_asked.nd (pi_zip (by rfl) T.n_zip (pa_cons (pv 3) (pa_cons (pv 2) pa_nil))) (blkOk_by (N := ["_law_most", "_law_one", "_law_truths", "_law_begins", "_law_number", "_law_ends", "_law_due", "_law_found", "_law_begin", "_law_end", "_law_truth"]) (sc := defScope s_law_asked) (by decide +kernel)) (fun _ _ _ _ _ => by exact (pg_tup rfl (pgs_cons (pg_name (i := 8) sc_law_asked.nd rfl (by first | exact Or.inl rfl | exact Or.inr rfl)) (pgs_cons (pg_name (i := 10) sc_law_asked.nd rfl (by first | exact Or.inl rfl | exact Or.inr rfl)) pgs_nil)))) (fun _ _ _ _ _ => by exact (pts_one (pt_val (pv 10)))) (fun _ _ _ _ _ => by exact (pv 8))) pa_nil) (pk_cons pe_non pk_nil)) (nomark _)) (pss_cons (ps_ret pe_bl) pss_nil) pss_nil) (pss_cons (ps_set (i := 6) sc_law_asked.nd rfl (by first | exact Or.inl rfl | exact Or.inr rfl) (pe_ix (ixL_K (K := K) rfl) (pe_lc (own := [("_law_begin", 8), ("_law_truth", 10)]) (g := (gTup K 2 (gCons (gName 8) (gCons (gName 10) gNil)))) rfl sc_law_asked.nd (pi_zip (by rfl) T.n_zip (pa_cons (pv 3) (pa_cons (pv 2) pa_nil))) (blkOk_by (N := ["_law_most", "_law_one", "_law_truths", "_law_begins", "_law_number", "_law_ends", "_law_due", "_law_found", "_law_begin", "_law_end", "_law_truth"]) (sc := defScope s_law_asked) (by decide +kernel)) (fun _ _ _ _ _ => by exact (pg_tup rfl (pgs_cons (pg_name (i := 8) sc_law_asked.nd rfl (by first | exact Or.inl rfl | exact Or.inr rfl)) (pgs_cons (pg_name (i := 10) sc_law_asked.nd rfl (by first | exact Or.inl rfl | exact Or.inr rfl)) pgs_nil)))) (fun _ _ _ _ _ => by exact (pts_one (pt_cmpR op_le (pv 8) (pv 4) (nomark _)))) (fun _ _ _ _ _ => by exact (pv 10))) (pe_un un_neg pe_int) (fun _ _ => rfl))) (pss_cons (ps_set (i := 7) sc_law_asked.nd rfl (by first | exact Or.inl rfl | exact Or.inr rfl) (pe_call (ok_has T) (hr.mono (by decide)) (by rfl) T.g_has T.F_has.kp T.b_has .nil pass0 (pa_cons (pv 1) (pa_cons (pv 4) pa_nil)))) (pss_cons (ps_ret (pe_and (pe_callB (isi_K (K := K) rfl) (by rfl) T.n_isinstance bb_isinstance (pa_cons (pv 7) (pa_cons (pe_bltn (v := .ty "bool") (by rfl) T.n_bool bb_bool rfl) pa_nil))) (pe_one (pe_cmpR (opEq_K (K := K) rfl hr.units) (pv 7) (pv 6) (nomark _))))) pss_nil)))))), ?_⟩
    unfold m_law_asked at hm
    obtain ⟨H0, e0, q⟩ := heapB q
    obtain ⟨G, A, r_law_most, r_law_one, r_law_truths, r_law_begins, r_law_number⟩ : exists G, At G H [] ∧ rp K G v_law_most x_law_most ∧ rp K G v_law_one x_law_one ∧ rp K G v_law_truths x_law_truths ∧ rp K G v_law_begins x_law_begins ∧ rp K G v_law_number x_law_number := ⟨H, At.nil H, r_law_most, r_law_one, r_law_truths, r_law_begins, r_law_number⟩
    obtain ⟨x_law_ends, hx, hm⟩ := bnd hm
    refine st_asg ((x_cat ((x_cut (eb_v rfl (Rp.mono A.ex r_law_begins)) (ep_some (eb_int (K := K))) ep_none)).b ((x_lst (l_cons (x_add (eb_v rfl (Rp.mono A.ex r_law_most)) (eb_int (K := K))) (l_nil (K := K))))).b)).own hx A fun v_law_ends G283 H284 g e A r_law_ends => ?_
    replace r_law_most := Rp.mono g r_law_most
    replace r_law_one := Rp.mono g r_law_one
    replace r_law_truths := Rp.mono g r_law_truths
    replace r_law_begins := Rp.mono g r_law_begins
    replace r_law_number := Rp.mono g r_law_number
    replace e0 := e0.trans e
    obtain ⟨b286, hb286, hm⟩ := bnd hm
    refine st_if (et_test (x_ne (by decide) (eb_call (em1 (eb_v rfl (Rp.mono A.ex r_law_one)))) (x_sum ((x_lc (i_zip3 (es_b (eb_v rfl (Rp.mono A.ex r_law_begins))) (es_b (eb_v rfl (Rp.mono A.ex r_law_ends))) (es_b (eb_v rfl (Rp.mono A.ex r_law_truths)))) (tg_3 tg_n tg_n tg_n) (bi_3 (bi_n (by decide)) (bi_n (by decide)) (bi_n (by decide))) (fun y285 σc Hc gh285 hb285 => by obtain ⟨_, _, ⟨c285v_law_begin, c285r_law_begin, rfl⟩, ⟨c285v_law_end, c285r_law_end, rfl⟩, ⟨c285v_law_truth, c285r_law_truth, rfl⟩⟩ := hb285; exact (et_b (eb_v rfl c285r_law_truth))) (fun y285 σc Hc gh285 hb285 => by obtain ⟨_, _, ⟨c285v_law_begin, c285r_law_begin, rfl⟩, ⟨c285v_law_end, c285r_law_end, rfl⟩, ⟨c285v_law_truth, c285r_law_truth, rfl⟩⟩ := hb285; exact (x_sub (eb_v rfl c285r_law_end) (eb_v rfl c285r_law_begin))))).b))) hb286 (fun eb286 H287 e => ?_) (fun eb286 H287 e => ?_)
    · subst eb286
      replace hm := itt hm
      replace A := A.grow e
      replace e0 := e0.trans e
      exact sr_b (eb_bl (K := K)) hm fun w H e r => q w H (e0.trans e) r
    · subst eb286
      replace hm := itf hm
      replace A := A.grow e
      replace e0 := e0.trans e
      obtain ⟨b289, hb289, hm⟩ := bnd hm
      refine st_if (et_test (x_ne (by decide) (eb_call (em1 (eb_v rfl (Rp.mono A.ex r_law_one)))) (x_minN ((x_lc (i_zip (es_b (eb_v rfl (Rp.mono A.ex r_law_begins))) (es_b (eb_v rfl (Rp.mono A.ex r_law_truths)))) (tg_p tg_n tg_n) (bi_p (bi_n (by decide)) (bi_n (by decide))) (fun y288 σc Hc gh288 hb288 => by obtain ⟨_, ⟨c288v_law_begin, c288r_law_begin, rfl⟩, ⟨c288v_law_truth, c288r_law_truth, rfl⟩⟩ := hb288; exact (et_b (eb_v rfl c288r_law_truth))) (fun y288 σc Hc gh288 hb288 => by obtain ⟨_, ⟨c288v_law_begin, c288r_law_begin, rfl⟩, ⟨c288v_law_truth, c288r_law_truth, rfl⟩⟩ := hb288; exact (eb_v rfl c288r_law_begin)))).b))) hb289 (fun eb289 H290 e => ?_) (fun eb289 H290 e => ?_)
      · subst eb289
        replace hm := itt hm
        replace A := A.grow e
        replace e0 := e0.trans e
        exact sr_b (eb_bl (K := K)) hm fun w H e r => q w H (e0.trans e) r
      · subst eb289
        replace hm := itf hm
        replace A := A.grow e
        replace e0 := e0.trans e
        obtain ⟨x_law_due, hx, hm⟩ := bnd hm
        refine st_asg ((x_ixL ((x_lc (i_zip (es_b (eb_v rfl (Rp.mono A.ex r_law_begins))) (es_b (eb_v rfl (Rp.mono A.ex r_law_truths)))) (tg_p tg_n tg_n) (bi_p (bi_n (by decide)) (bi_n (by decide))) (fun y291 σc Hc gh291 hb291 => by obtain ⟨_, ⟨c291v_law_begin, c291r_law_begin, rfl⟩, ⟨c291v_law_truth, c291r_law_truth, rfl⟩⟩ := hb291; exact (et_test (x_le (eb_v rfl c291r_law_begin) (eb_v rfl (Rp.mono gh291 (Rp.mono A.ex r_law_number)))))) (fun y291 σc Hc gh291 hb291 => by obtain ⟨_, ⟨c291v_law_begin, c291r_law_begin, rfl⟩, ⟨c291v_law_truth, c291r_law_truth, rfl⟩⟩ := hb291; exact (eb_v rfl c291r_law_truth)))).b (x_neg (eb_int (K := K))))).own hx A fun v_law_due G292 H293 g e A r_law_due => ?_
        replace r_law_most := Rp.mono g r_law_most
        replace r_law_one := Rp.mono g r_law_one
        replace r_law_truths := Rp.mono g r_law_truths
        replace r_law_begins := Rp.mono g r_law_begins
        replace r_law_number := Rp.mono g r_law_number
        replace r_law_ends := Rp.mono g r_law_ends
        replace e0 := e0.trans e
        obtain ⟨x_law_found, hx, hm⟩ := bnd hm
        refine st_asg ((eb_call (em2 (eb_v rfl (Rp.mono A.ex r_law_one)) (eb_v rfl (Rp.mono A.ex r_law_number))))).own hx A fun v_law_found G294 H295 g e A r_law_found => ?_
        replace r_law_most := Rp.mono g r_law_most
        replace r_law_one := Rp.mono g r_law_one
        replace r_law_truths := Rp.mono g r_law_truths
        replace r_law_begins := Rp.mono g r_law_begins
        replace r_law_number := Rp.mono g r_law_number
        replace r_law_ends := Rp.mono g r_law_ends
        replace r_law_due := Rp.mono g r_law_due
        replace e0 := e0.trans e
        exact sr_b (eb_and (x_isi (b := true) (by exact L2.kit_ty (by decide +kernel)) (eb_v rfl (Rp.mono A.ex r_law_found))) (x_eq (by decide) (eb_v rfl (Rp.mono A.ex r_law_found)) (eb_v rfl (Rp.mono A.ex r_law_due)))) hm fun w H e r => q w H (e0.trans e) r
/-! law -/
def m_law_l1 (z299_law_most : Int) (s299 : (List Int)) (x299 : (Int × Int)) : Option (List Int) := ((o4 m_law_point (some x299.2) (some x299.1) (some z299_law_most) (some s299))).bind fun y305 => (fApp s299 y305).bind fun x_law_ahead => some x_law_ahead
def m_law_l3 (z343_law_begins : (List Int)) (z343_law_truths : (List (List Bool))) (s343 : (List Int)) (x343 : Int) : Option (List Int) := ((o1 fAny (oComp (fun (y349 : (List Bool)) => (some true)) (fun (y349 : (List Bool)) => (o2 fNe (o2 ix (some y349) (o2 fSub (some x343) (some (1 : Int)))) (o2 ix (some y349) (some x343)))) (some z343_law_truths)))).bind fun b350 => if b350 = true then (((o2 ix (some z343_law_begins) (some x343))).bind fun y352 => (fApp s343 y352).bind fun x_law_due => some x_law_due) else (some s343)
def m_law_l2 (z320_law_most : Int) (z320_law_ahead : (List Int)) (z320_law_begins : (List Int)) (s320 : (List (Tl (Int × Int))) × (List (List Bool))) (x320 : (Int × Int)) : Option (((List (Tl (Int × Int))) × (List (List Bool))) ⊕ Bool) := ((some x320.2)).bind fun y326 => ((some z320_law_most)).bind fun y327 => ((some z320_law_begins)).bind fun y328 => (m_law_deed y326 y327 s320.1 s320.2 y328).bind fun r331 => ((o2 fNe (oComp (fun (y332 : (List Bool)) => (some true)) (fun (y332 : (List Bool)) => (o3 m_law_made (some z320_law_most) (some z320_law_begins) (some y332))) (some r331.2.2)) (some r331.2.1))).bind fun b333 => if b333 = true then (((some false)).bind fun y335 => some (Sum.inr y335)) else (((oNot (o5 m_law_asked (some z320_law_most) (o2 ix (some r331.2.1) (some r331.1)) (o2 ix (some r331.2.2) (some r331.1)) (some z320_law_begins) (o4 m_law_point (some x320.2) (o2 fAdd (some x320.1) (some (90 : Int))) (some z320_law_most) (some z320_law_ahead))))).bind fun b336 => if b336 = true then (((some false)).bind fun y338 => some (Sum.inr y338)) else (((o2 m_parts (some z320_law_most) (o1 fList (some r331.2.1)))).bind fun x_law_found => ((o1 szOk (o2 fCons (o2 ix (some z320_law_begins) (some (0 : Int))) (some ([] : List Int))))).bind fun x_law_due => ((o2 fRng2 (some (1 : Int)) (o1 fLen (some z320_law_begins)))).bind fun xs343 => (foldO (m_law_l3 z320_law_begins r331.2.2) x_law_due xs343).bind fun w343 => ((o2 fNe (oComp (fun (y358 : (Int × Int)) => (some true)) (fun (y358 : (Int × Int)) => (some y358.1)) (some x_law_found)) (some w343))).bind fun b359 => if b359 = true then (((some false)).bind fun y361 => some (Sum.inr y361)) else (some (Sum.inl (r331.2.1, r331.2.2)))))
def m_law (x_law_script : Scr) : Option Bool := ((o1 m_law_most_by (some x_law_script))).bind fun x_law_most => ((((o3 fCutS (some x_law_script) (some none) (((some (60 : Int))).map some))).map enum)).bind fun xs299 => (foldO (m_law_l1 x_law_most) ([] : List Int) xs299).bind fun w299 => ((o1 fSortSet (o2 fCat (o1 szOk (o2 fCons (some (0 : Int)) (some ([] : List Int)))) (some w299)))).bind fun x_law_begins => ((oComp (fun (y313 : Int) => (some true)) (fun (y313 : Int) => (o1 fTup (some ([] : List (Int × Int))))) (o1 fRng1 (some (5 : Int))))).bind fun x_law_kept => ((oComp (fun (y316 : Int) => (some true)) (fun (y316 : Int) => (oComp (fun (y317 : Int) => (some true)) (fun (y317 : Int) => (some false)) (some x_law_begins))) (o1 fRng1 (some (5 : Int))))).bind fun x_law_truths => ((((o3 fCutS (some x_law_script) (some none) (((some (60 : Int))).map some))).map enum)).bind fun xs320 => (loopM (m_law_l2 x_law_most w299 x_law_begins) (x_law_kept, x_law_truths) xs320).bind fun res320 => fin (fun w320 => (some true)) res320
set_option maxHeartbeats 4000000 in
theorem ok_law {P : Program} {w : World} {K : Fg} {mg : Str → Option Value} {base : Heap} (T : Txt K mg) : FnOk P w K mg base CX0 5 T.a_law T.d_law ["_law_script"] (PSb K (A1 K m_law)) := by
  refine T.F_law.ok sc_law (fun vs H Q E h => ?_) (fun cdv A0 outer s H vs Q E hr h => ?_)
  · obtain ⟨r, ⟨v_law_script, x_law_script, rfl, r_law_script, hm⟩, q⟩ := h
    rfl
  · obtain ⟨r_fn, ⟨v_law_script, x_law_script, rfl, r_law_script, hm⟩, q⟩ := h
    refine ⟨_, (pss_cons (ps_set (i := 1) sc_law.nd rfl (by first | exact Or.inl rfl | exact Or.inr rfl) (pe_call (ok_law_most_by T) (hr.mono (by decide)) (by rfl) T.g_law_most_by T.F_law_most_by.kp T.b_law_most_by .nil pass0 (pa_cons (pv 0) pa_nil))) (pss_cons (ps_set (i := 2) sc_law.nd rfl (by first | exact Or.inl rfl | exact Or.inr rfl) (pe_lst pa_nil)) (pss_cons (ps_for PassesOwn.never rfl (pi_enum (by rfl) T.n_enumerate (pa_cons (pe_slice (slL_K (K := K) rfl) (pv 0) po_none (po_some pe_int)) pa_nil)) (pg_tup rfl (pgs_cons (pg_name (i := 3) sc_law.nd rfl (by first | exact Or.inl rfl | exact Or.inr rfl)) (pgs_cons (pg_name (i := 4) sc_law.nd rfl (by first | exact Or.inl rfl | exact Or.inr rfl)) pgs_nil))) (pss_cons (ps_expr (pe_bm PySem.F.plainAttrs_list PySem.F.slot_list_append PySem.F.type_list_append mt_append (pv 2) (pa_cons (pe_call (ok_law_point T) (hr.mono (by decide)) (by rfl) T.g_law_point T.F_law_point.kp T.b_law_point .nil pass0 (pa_cons (pv 4) (pa_cons (pv 3) (pa_cons (pv 1) (pa_cons (pv 2) pa_nil))))) pa_nil))) pss_nil)) (pss_cons (ps_set (i := 5) sc_law.nd rfl (by first | exact Or.inl rfl | exact Or.inr rfl) (pe_callB (cr_sortS rfl) (by rfl) T.n_sorted bb_sorted (pa_cons (pe_callTy (cr_setL rfl) (by rfl) T.n_set bb_set (pa_cons (pe_op op_cat (pe_lst (pa_cons pe_int pa_nil)) (pv 2)) pa_nil)) pa_nil))) (pss_cons (ps_setLc (i := 6) (own := [("_law_k", 3)]) (g := (gName 3)) rfl sc_law.nd rfl rfl (sw_true rfl rfl rfl (by decide +kernel)) (pi_range1 (by rfl) T.n_range (pa_cons pe_int pa_nil)) (blkOk_by (N := ["_law_script", "_law_most", "_law_ahead", "_law_k", "_law_cell", "_law_begins", "_law_kept", "_law_truths", "_law_at", "_law_found", "_law_due", "_law_j", "_law_begin", "_law_some", "_law_low", "_law_high"]) (sc := defScope s_law) (by decide +kernel)) (fun _ _ _ _ _ => by exact (pg_name (i := 3) sc_law.nd rfl (by first | exact Or.inl rfl | exact Or.inr rfl))) (fun _ _ _ _ _ => by exact pts_nil) (fun _ _ _ _ _ => by exact (pe_tup pa_nil))) (pss_cons (ps_setLc (i := 7) (own := [("_law_k", 3)]) (g := (gName 3)) rfl sc_law.nd rfl rfl (sw_true rfl rfl rfl (by decide +kernel)) (pi_range1 (by rfl) T.n_range (pa_cons pe_int pa_nil)) (blkOk_by (N := ["_law_script", "_law_most", "_law_ahead", "_law_k", "_law_cell", "_law_begins", "_law_kept", "_law_truths", "_law_at", "_law_found", "_law_due", "_law_j", "_law_begin", "_law_some", "_law_low", "_law_high"]) (sc := defScope s_law) (by decide +kernel)) (fun _ _ _ _ _ => by exact (pg_name (i := 3) sc_law.nd rfl (by first | exact Or.inl rfl | exact Or.inr rfl))) (fun _ _ _ _ _ => by exact pts_nil) (fun _ _ _ _ _ => by exact (pe_lc (own := [("_law_begin", 12)]) (g := (gName 12)) rfl sc_law.nd (piL_K (K := K) rfl (pv 5)) (blkOk_by (by kernel_rfl)) (fun _ _ _ _ _ => by exact (pg_name (i := 12) sc_law.nd rfl (by first | exact Or.inl rfl | exact Or.inr rfl))) (fun _ _ _ _ _ => by exact pts_nil) (fun _ _ _ _ _ => by exact pe_bl)))) (pss_cons (ps_for PassesOwn.never rfl (pi_enum (by rfl) T.n_enumerate (pa_cons (pe_slice (slL_K (K := K) rfl) (pv 0) po_none (po_some pe_int)) pa_nil)) (pg_tup rfl (pgs_cons (pg_name (i := 3) sc_law.nd rfl (by first | exact Or.inl rfl | exact Or.inr rfl)) (pgs_cons (pg_name (i := 4) sc_law.nd rfl (by first | exact Or.inl rfl | exact Or.inr rfl)) pgs_nil))) (pss_cons (ps_set (i := 8) sc_law.nd rfl (by first | exact Or.inl rfl | exact Or.inr rfl) (pe_call (ok_law_deed T) (hr.mono (by decide)) (by rfl) T.g_law_deed T.F_law_deed.kp T.b_law_deed .nil pass0 (pa_cons (pv 4) (pa_cons (pv 1) (pa_cons (pv 6) (pa_cons (pv 7) (pa_cons (pv 5) pa_nil))))))) (pss_cons (ps_if (pt_cmpR (opNe_K (K := K) rfl hr.units) (pe_lc (own := [("_law_some", 13)]) (g := (gName 13)) rfl sc_law.nd (piL_K (K := K) rfl (pv 7)) (blkOk_by (N := ["_law_script", "_law_most", "_law_ahead", "_law_k", "_law_cell", "_law_begins", "_law_kept", "_law_truths", "_law_at", "_law_found", "_law_due", "_law_j", "_law_begin", "_law_some", "_law_low", "_law_high"]) (sc := defScope s_law) (by decide +kernel)) (fun _ _ _ _ _ => by exact (pg_name (i := 13) sc_law.nd rfl (by first | exact Or.inl rfl | exact Or.inr rfl))) (fun _ _ _ _ _ => by exact pts_nil) (fun _ _ _ _ _ => by exact (pe_call (ok_law_made T) (hr.mono (by decide)) (by rfl) T.g_law_made T.F_law_made.kp T.b_law_made .nil pass0 (pa_cons (pv 1) (pa_cons (pv 5) (pa_cons (pv 13) pa_nil)))))) (pv 6) (nomark _)) (pss_cons (ps_ret pe_bl) pss_nil) pss_nil) (pss_cons (ps_if (pt_not (pt_val (pe_call (ok_law_asked T) (hr.mono (by decide)) (by rfl) T.g_law_asked T.F_law_asked.kp T.b_law_asked .nil pass0 (pa_cons (pv 1) (pa_cons (pe_ix (ixL_K (K := K) rfl) (pv 6) (pv 8) (fun _ _ => rfl)) (pa_cons (pe_ix (ixL_K (K := K) rfl) (pv 7) (pv 8) (fun _ _ => rfl)) (pa_cons (pv 5) (pa_cons (pe_call (ok_law_point T) (hr.mono (by decide)) (by rfl) T.g_law_point T.F_law_point.kp T.b_law_point .nil pass0 (pa_cons (pv 4) (pa_cons (pe_op op_add (pv 3) pe_int) (pa_cons (pv 1) (pa_cons (pv 2) pa_nil))))) pa_nil)))))))) (pss_cons (ps_ret pe_bl) pss_nil) pss_nil) (pss_cons (ps_set (i := 9) sc_law.nd rfl (by first | exact Or.inl rfl | exact Or.inr rfl) (pe_call (ok_parts T) (hr.mono (by decide)) (by rfl) T.g_parts T.F_parts.kp T.b_parts .nil pass0 (pa_cons (pv 1) (pa_cons (pe_callTy (lof_K (K := K) rfl) (by rfl) T.n_list bb_list (pa_cons (pv 6) pa_nil)) pa_nil)))) (pss_cons (ps_set (i := 10) sc_law.nd rfl (by first | exact Or.inl rfl | exact Or.inr rfl) (pe_lst (pa_cons (pe_ix (ixL_K (K := K) rfl) (pv 5) pe_int (fun _ _ => rfl)) pa_nil))) (pss_cons (ps_for PassesOwn.never rfl (pi_range2 (by rfl) T.n_range (pa_cons pe_int (pa_cons (pe_callB (len_K (K := K) rfl) (by rfl) T.n_len bb_len (pa_cons (pv 5) pa_nil)) pa_nil))) (pg_name (i := 11) sc_law.nd rfl (by first | exact Or.inl rfl | exact Or.inr rfl)) (pss_cons (ps_if (pt_val (pe_callB (cr_any rfl) (by rfl) T.n_any bb_any (pa_cons (pe_lc (own := [("_law_some", 13)]) (g := (gName 13)) rfl sc_law.nd (piL_K (K := K) rfl (pv 7)) (blkOk_by (N := ["_law_script", "_law_most", "_law_ahead", "_law_k", "_law_cell", "_law_begins", "_law_kept", "_law_truths", "_law_at", "_law_found", "_law_due", "_law_j", "_law_begin", "_law_some", "_law_low", "_law_high"]) (sc := defScope s_law) (by decide +kernel)) (fun _ _ _ _ _ => by exact (pg_name (i := 13) sc_law.nd rfl (by first | exact Or.inl rfl | exact Or.inr rfl))) (fun _ _ _ _ _ => by exact pts_nil) (fun _ _ _ _ _ => by exact (pe_cmpR (opNe_K (K := K) rfl hr.units) (pe_ix (ixL_K (K := K) rfl) (pv 13) (pe_op op_sub (pv 11) pe_int) (fun _ _ => rfl)) (pe_ix (ixL_K (K := K) rfl) (pv 13) (pv 11) (fun _ _ => rfl)) (nomark _)))) pa_nil))) (pss_cons (ps_expr (pe_bm PySem.F.plainAttrs_list PySem.F.slot_list_append PySem.F.type_list_append mt_append (pv 10) (pa_cons (pe_ix (ixL_K (K := K) rfl) (pv 5) (pv 11) (fun _ _ => rfl)) pa_nil))) pss_nil) pss_nil) pss_nil)) (pss_cons (ps_if (pt_cmpR (opNe_K (K := K) rfl hr.units) (pe_lc (own := [("_law_low", 14), ("_law_high", 15)]) (g := (gTup K 2 (gCons (gName 14) (gCons (gName 15) gNil)))) rfl sc_law.nd (piL_K (K := K) rfl (pv 9)) (blkOk_by (N := ["_law_script", "_law_most", "_law_ahead", "_law_k", "_law_cell", "_law_begins", "_law_kept", "_law_truths", "_law_at", "_law_found", "_law_due", "_law_j", "_law_begin", "_law_some", "_law_low", "_law_high"]) (sc := defScope s_law) (by decide +kernel)) (fun _ _ _ _ _ => by exact (pg_tup rfl (pgs_cons (pg_name (i := 14) sc_law.nd rfl (by first | exact Or.inl rfl | exact Or.inr rfl)) (pgs_cons (pg_name (i := 15) sc_law.nd rfl (by first | exact Or.inl rfl | exact Or.inr rfl)) pgs_nil)))) (fun _ _ _ _ _ => by exact pts_nil) (fun _ _ _ _ _ => by exact (pv 14))) (pv 10) (nomark _)) (pss_cons (ps_ret pe_bl) pss_nil) pss_nil) pss_nil)))))))) (pss_cons (ps_ret pe_bl) pss_nil)))))))), ?_⟩
    unfold m_law at hm
    obtain ⟨H0, e0, q⟩ := heapB q
    obtain ⟨G, A, r_law_script⟩ : exists G, At G H [] ∧ rp K G v_law_script x_law_script := ⟨H, At.nil H, r_law_script⟩
    obtain ⟨x_law_most, hx, hm⟩ := bnd hm
    refine st_asg ((eb_call (em1 (eb_v rfl (Rp.mono A.ex r_law_script))))).own hx A fun v_law_most G296 H297 g e A r_law_most => ?_
    replace r_law_script := Rp.mono g r_law_script
    replace e0 := e0.trans e
    refine st_new A fun p_law_ahead hp_law_ahead A => ?_
    have ne0_law_ahead := e0.back hp_law_ahead
    replace e0 := e0.trans (Gx.new (o := HO.lst []) hp_law_ahead)
    have al_law_ahead : Al (rp K G296) ([] : List V) ([] : List Int) := trivial
    generalize upd _ p_law_ahead (.lst []) = H298 at A e0 ⊢
    obtain ⟨xs299, hx299, hm⟩ := bnd hm
    obtain ⟨w299, hl299, hm⟩ := bnd hm
    refine st_for (M := [p_law_ahead]) (i_enum (es_n (x_cutS (eb_v rfl (Rp.mono A.ex r_law_script)) ep_none (ep_some (eb_int (K := K)))) (A.hMu (by simp)))) hx299 fun J299 HL299 e wk299 => ?_
    replace A := A.grow e
    replace e0 := e0.trans e
    have eM299 : Gx (mns HL299 [p_law_ahead]) HL299 := mns_ex
    have gL299 : Gx G296 G296 := Gx.rfl
    have neM299_law_ahead : (mns HL299 [p_law_ahead]) p_law_ahead = none := mns_in (by simp)
    refine fold_run wk299 hl299 (tg_p tg_n tg_n) (fun (s299 : (List Int)) (σ : L2.St) (H : Hp) => exists (Gi : Hp) (k_law_k : Option V) (k_law_cell : Option V) (vs_law_ahead : List V), σ = [some v_law_script, some v_law_most, some (.ref p_law_ahead), k_law_k, k_law_cell, none, none, none, none, none, none, none, none, none, none, none] ∧ Gx H0 H ∧ Gx (mns HL299 [p_law_ahead]) H ∧ Gx G296 Gi ∧ At Gi H [(p_law_ahead, HO.lst vs_law_ahead)] ∧ Al (rp K Gi) vs_law_ahead s299) (fun s σ H h => ?_) ?_ (fun s299 x299 o299 σ H303 H301 σ2 hxm hf hin e hb => ?_) (fun σ H310 hin => ?_)
    · obtain ⟨Gi, k_law_k, k_law_cell, vs_law_ahead, rfl, e0, eM299, gL299, A, al_law_ahead⟩ := h
      exact eM299
    · exact ⟨_, _, _, _, rfl, e0, eM299, gL299, A, al_law_ahead⟩
    · obtain ⟨G300, k_law_k, k_law_cell, vs_law_ahead, rfl, e0, eM299, gL299, A, al_law_ahead⟩ := hin
      obtain ⟨_, ⟨v_law_k, r_law_k, rfl⟩, ⟨v_law_cell, r_law_cell, rfl⟩⟩ := hb
      replace A := A.grow e
      replace e0 := e0.trans e
      replace eM299 := eM299.trans e
      replace r_law_script := Rp.mono gL299 r_law_script
      replace r_law_most := Rp.mono gL299 r_law_most
      replace r_law_k := Im.im A.tx r_law_k
      replace r_law_cell := Im.im A.tx r_law_cell
      have g := A.gh
      replace A := A.hid
      replace r_law_script := Rp.mono g r_law_script
      replace r_law_most := Rp.mono g r_law_most
      replace al_law_ahead := al_law_ahead.mono fun _ _ => Rp.mono g
      replace gL299 := gL299.trans g
      generalize hid _ _ = G304 at *
      have hm := hf
      unfold m_law_l1 at hm
      obtain ⟨y305, hy305, hm⟩ := bnd hm
      obtain ⟨x_law_ahead, hd, hm⟩ := bnd hm
      replace hd := fApps hd
      refine st_app (L1 := []) (slot_ref rfl) ((eb_call (em4 (eb_v rfl (Rp.mono A.ex r_law_cell)) (eb_v rfl (Rp.mono A.ex r_law_k)) (eb_v rfl (Rp.mono A.ex r_law_most)) (eb_v rfl (mv_rp A (List.Mem.head _) al_law_ahead))))).own hy305 A (by rw [al_law_ahead.len]; exact hd.2) fun v_y305 G306 H307 g e A r_y305 => ?_
      replace r_law_script := Rp.mono g r_law_script
      replace r_law_most := Rp.mono g r_law_most
      replace al_law_ahead := al_law_ahead.mono fun _ _ => Rp.mono g
      replace r_law_k := Rp.mono g r_law_k
      replace r_law_cell := Rp.mono g r_law_cell
      replace gL299 := gL299.trans g
      replace e0 := e0.trans e
      replace eM299 := eM299.trans e
      replace al_law_ahead := al_law_ahead.app (Al.one r_y305)
      rw [← hd.1] at al_law_ahead
      replace e0 := Gx.mutA e0 ne0_law_ahead A
      replace eM299 := Gx.mutA eM299 neM299_law_ahead A
      generalize upd _ p_law_ahead (.lst _) = H308 at A e0 eM299 ⊢
      obtain rfl := Option.some.inj hm
      exact ⟨_, _, _, _, rfl, e0, eM299, gL299, A, al_law_ahead⟩
    · obtain ⟨G309, k_law_k, k_law_cell, vs_law_ahead, rfl, e0, eM299, gL299, A, al_law_ahead⟩ := hin
      replace r_law_script := Rp.mono gL299 r_law_script
      replace r_law_most := Rp.mono gL299 r_law_most
      obtain ⟨x_law_begins, hx, hm⟩ := bnd hm
      refine st_asg ((x_sortSet ((x_cat ((x_lst (l_cons (eb_int (K := K)) (l_nil (K := K))))).b (eb_v rfl (mv_rp A (List.Mem.head _) al_law_ahead)))).b)).own hx A fun v_law_begins G311 H312 g e A r_law_begins => ?_
      replace r_law_script := Rp.mono g r_law_script
      replace r_law_most := Rp.mono g r_law_most
      replace al_law_ahead := al_law_ahead.mono fun _ _ => Rp.mono g
      replace e0 := e0.trans e
      obtain ⟨x_law_kept, hx, hm⟩ := bnd hm
      refine st_newM (x_lc (i_rng1 (eb_int (K := K))) tg_n (bi_n (by decide)) (fun y313 σc Hc gh313 hb313 => by obtain ⟨c313v_law_k, c313r_law_k, rfl⟩ := hb313; exact t_yes) (fun y313 σc Hc gh313 hb313 => by obtain ⟨c313v_law_k, c313r_law_k, rfl⟩ := hb313; exact (x_tup (l_nil (K := K))))) hx A fun p_law_kept vs_law_kept G314 H315 hp_law_kept g e A al_law_kept => ?_
      have ne0_law_kept := e0.back hp_law_kept
      replace r_law_script := Rp.mono g r_law_script
      replace r_law_most := Rp.mono g r_law_most
      replace al_law_ahead := al_law_ahead.mono fun _ _ => Rp.mono g
      replace r_law_begins := Rp.mono g r_law_begins
      replace e0 := e0.trans e
      obtain ⟨x_law_truths, hx, hm⟩ := bnd hm
      refine st_newQ (x_lcQ (i_rng1 (eb_int (K := K))) tg_n (bi_n (by decide)) (fun y316 σc Hc gh316 hb316 => by obtain ⟨c316v_law_k, c316r_law_k, rfl⟩ := hb316; exact t_yes) (fun y316 σc Hc gh316 hb316 => by obtain ⟨c316v_law_k, c316r_law_k, rfl⟩ := hb316; exact (x_lc (i_list (es_b (eb_v rfl (Rp.mono gh316 (Rp.mono A.ex r_law_begins))))) tg_n (bi_n (by decide)) (fun y317 σc Hc gh317 hb317 => by obtain ⟨c317v_law_begin, c317r_law_begin, rfl⟩ := hb317; exact t_yes) (fun y317 σc Hc gh317 hb317 => by obtain ⟨c317v_law_begin, c317r_law_begin, rfl⟩ := hb317; exact (eb_bl (K := K)))))) hx A fun p_law_truths vs_law_truths G318 H319 hp_law_truths g e A al_law_truths => ?_
      have ne0_law_truths := e0.back hp_law_truths
      replace r_law_script := Rp.mono g r_law_script
      replace r_law_most := Rp.mono g r_law_most
      replace al_law_ahead := al_law_ahead.mono fun _ _ => Rp.mono g
      replace r_law_begins := Rp.mono g r_law_begins
      replace al_law_kept := al_law_kept.mono fun _ _ => Rp.mono g
      replace e0 := e0.trans e
      obtain ⟨xs320, hx320, hm⟩ := bnd hm
      obtain ⟨res320, hl320, hm⟩ := bnd hm
      have hmL320 := hm
      refine st_for (M := [p_law_kept, p_law_truths]) (i_enum (es_n (x_cutS (eb_v rfl (Rp.mono A.ex r_law_script)) ep_none (ep_some (eb_int (K := K)))) (A.hMu (by simp)))) hx320 fun J320 HL320 e wk320 => ?_
      replace A := A.grow e
      replace e0 := e0.trans e
      have eM320 : Gx (mns HL320 [p_law_kept, p_law_truths]) HL320 := mns_ex
      have gL320 : Gx G318 G318 := Gx.rfl
      have neM320_law_kept : (mns HL320 [p_law_kept, p_law_truths]) p_law_kept = none := mns_in (by simp)
      have neM320_law_truths : (mns HL320 [p_law_kept, p_law_truths]) p_law_truths = none := mns_in (by simp)
      obtain ⟨o320_law_ahead, ho320_law_ahead, A⟩ := at_obj (L1 := [_, _]) A
      refine loop_run wk320 hl320 (tg_p tg_n tg_n) (fun (s320 : (List (Tl (Int × Int))) × (List (List Bool))) (σ : L2.St) (H : Hp) => exists (Gi : Hp) (k_law_k : Option V) (k_law_cell : Option V) (k_law_at : Option V) (k_law_found : Option V) (k_law_due : Option V) (k_law_j : Option V) (vs_law_kept : List V) (vs_law_truths : List V), σ = [some v_law_script, some v_law_most, some (.ref p_law_ahead), k_law_k, k_law_cell, some v_law_begins, some (.ref p_law_kept), some (.ref p_law_truths), k_law_at, k_law_found, k_law_due, k_law_j, none, none, none, none] ∧ Gx H0 H ∧ Gx (mns HL320 [p_law_kept, p_law_truths]) H ∧ Gx G318 Gi ∧ At Gi H [(p_law_truths, HO.lst vs_law_truths), (p_law_kept, HO.lst vs_law_kept), (p_law_ahead, o320_law_ahead)] ∧ Al (rp K Gi) vs_law_kept s320.1 ∧ Al (rp K Gi) vs_law_truths s320.2) (fun s σ H h => ?_) ?_ (fun s320 x320 o320 σ H324 H322 σ2 hxm hf hr320 hin e hb => ?_) (fun w320 σ H363 hres hin => ?_)
      · obtain ⟨Gi, k_law_k, k_law_cell, k_law_at, k_law_found, k_law_due, k_law_j, vs_law_kept, vs_law_truths, rfl, e0, eM320, gL320, A, al_law_kept, al_law_truths⟩ := h
        exact eM320
      · exact ⟨_, _, _, _, _, _, _, _, _, rfl, e0, eM320, gL320, A, al_law_kept, al_law_truths⟩
      · obtain ⟨G321, k_law_k, k_law_cell, k_law_at, k_law_found, k_law_due, k_law_j, vs_law_kept, vs_law_truths, rfl, e0, eM320, gL320, A, al_law_kept, al_law_truths⟩ := hin
        subst ho320_law_ahead
        obtain ⟨_, ⟨v_law_k, r_law_k, rfl⟩, ⟨v_law_cell, r_law_cell, rfl⟩⟩ := hb
        replace A := A.grow e
        replace e0 := e0.trans e
        replace eM320 := eM320.trans e
        replace r_law_script := Rp.mono gL320 r_law_script
        replace r_law_most := Rp.mono gL320 r_law_most
        replace al_law_ahead := al_law_ahead.mono fun _ _ => Rp.mono gL320
        replace r_law_begins := Rp.mono gL320 r_law_begins
        replace r_law_k := Im.im A.tx r_law_k
        replace r_law_cell := Im.im A.tx r_law_cell
        have g := A.gh
        replace A := A.hid
        replace r_law_script := Rp.mono g r_law_script
        replace r_law_most := Rp.mono g r_law_most
        replace al_law_ahead := al_law_ahead.mono fun _ _ => Rp.mono g
        replace r_law_begins := Rp.mono g r_law_begins
        replace al_law_kept := al_law_kept.mono fun _ _ => Rp.mono g
        replace al_law_truths := al_law_truths.mono fun _ _ => Rp.mono g
        replace gL320 := gL320.trans g
        generalize hid _ _ = G325 at *
        have hm := hf
        unfold m_law_l2 at hm
        have hret320 := fun r h => finr (r := r) (hr320 r h) hmL320
        obtain ⟨y326, hy326, hm⟩ := bnd hm
        obtain ⟨y327, hy327, hm⟩ := bnd hm
        obtain ⟨y328, hy328, hm⟩ := bnd hm
        obtain ⟨r331, hr_r331, hm⟩ := bnd hm
        refine st_callD ((eb_v rfl (Rp.mono A.ex r_law_cell))).own hy326 ((eb_v rfl (Rp.mono A.ex r_law_most))).own hy327 rfl rfl (eo_v rfl r_law_begins) hy328 A al_law_kept al_law_truths hr_r331 fun v_law_at G329 H330 vs_law_kept vs_law_truths g e A r_law_at al_law_kept al_law_truths => ?_
        replace r_law_script := Rp.mono g r_law_script
        replace r_law_most := Rp.mono g r_law_most
        replace al_law_ahead := al_law_ahead.mono fun _ _ => Rp.mono g
        replace r_law_begins := Rp.mono g r_law_begins
        replace r_law_k := Rp.mono g r_law_k
        replace r_law_cell := Rp.mono g r_law_cell
        replace gL320 := gL320.trans g
        replace e0 := (mns_of e0 (fun p hp => by simp only [List.mem_cons, List.not_mem_nil, or_false] at hp; rcases hp with hp | hp <;> (rw [hp]; first | exact ne0_law_kept | exact ne0_law_truths))).trans e
        replace eM320 := (mns_of eM320 (fun p hp => by simp only [List.mem_cons, List.not_mem_nil, or_false] at hp; rcases hp with hp | hp <;> (rw [hp]; first | exact neM320_law_kept | exact neM320_law_truths))).trans e
        obtain ⟨b333, hb333, hm⟩ := bnd hm
        refine st_if (et_test (x_ne (by decide) ((x_lc (i_list (es_b (eb_v rfl (mv_rp A (List.Mem.head _) al_law_truths)))) tg_n (bi_n (by decide)) (fun y332 σc Hc gh332 hb332 => by obtain ⟨c332v_law_some, c332r_law_some, rfl⟩ := hb332; exact t_yes) (fun y332 σc Hc gh332 hb332 => by obtain ⟨c332v_law_some, c332r_law_some, rfl⟩ := hb332; exact (eb_call (em3 (eb_v rfl (Rp.mono gh332 (Rp.mono A.ex r_law_most))) (eb_v rfl (Rp.mono gh332 (Rp.mono A.ex r_law_begins))) (eb_v rfl c332r_law_some)))))).b (eb_v rfl (mv_rp A (List.Mem.tail _ (List.Mem.head _)) al_law_kept)))) hb333 (fun eb333 H334 e => ?_) (fun eb333 H334 e => ?_)
        · subst eb333
          replace hm := itt hm
          replace A := A.grow e
          replace e0 := e0.trans e
          replace eM320 := eM320.trans e
          obtain ⟨y335, hy335, hm⟩ := bnd hm
          have er := hret320 y335 (Option.some.inj hm).symm
          subst er
          exact sr_b (eb_bl (K := K)) hy335 fun w H e r => q w H (e0.trans e) r
        · subst eb333
          replace hm := itf hm
          replace A := A.grow e
          replace e0 := e0.trans e
          replace eM320 := eM320.trans e
          obtain ⟨b336, hb336, hm⟩ := bnd hm
          refine st_if (et_not (et_b (eb_call (em5 (eb_v rfl (Rp.mono A.ex r_law_most)) (x_ixL (eb_v rfl (mv_rp A (List.Mem.tail _ (List.Mem.head _)) al_law_kept)) (eb_v rfl (Rp.mono A.ex r_law_at))) (x_ixL (eb_v rfl (mv_rp A (List.Mem.head _) al_law_truths)) (eb_v rfl (Rp.mono A.ex r_law_at))) (eb_v rfl (Rp.mono A.ex r_law_begins)) (eb_call (em4 (eb_v rfl (Rp.mono A.ex r_law_cell)) (x_add (eb_v rfl (Rp.mono A.ex r_law_k)) (eb_int (K := K))) (eb_v rfl (Rp.mono A.ex r_law_most)) (eb_v rfl (mv_rp A (List.Mem.tail _ (List.Mem.tail _ (List.Mem.head _))) al_law_ahead)))))))) hb336 (fun eb336 H337 e => ?_) (fun eb336 H337 e => ?_)
          · subst eb336
            replace hm := itt hm
            replace A := A.grow e
            replace e0 := e0.trans e
            replace eM320 := eM320.trans e
            obtain ⟨y338, hy338, hm⟩ := bnd hm
            have er := hret320 y338 (Option.some.inj hm).symm
            subst er
            exact sr_b (eb_bl (K := K)) hy338 fun w H e r => q w H (e0.trans e) r
          · subst eb336
            replace hm := itf hm
            replace A := A.grow e
            replace e0 := e0.trans e
            replace eM320 := eM320.trans e
            obtain ⟨x_law_found, hx, hm⟩ := bnd hm
            refine st_asg ((en_call (em2 (eb_v rfl (Rp.mono A.ex r_law_most)) ((x_list (eb_v rfl (mv_rp A (List.Mem.tail _ (List.Mem.head _)) al_law_kept)))).b))).own hx A fun v_law_found G339 H340 g e A r_law_found => ?_
            replace r_law_script := Rp.mono g r_law_script
            replace r_law_most := Rp.mono g r_law_most
            replace al_law_ahead := al_law_ahead.mono fun _ _ => Rp.mono g
            replace r_law_begins := Rp.mono g r_law_begins
            replace al_law_kept := al_law_kept.mono fun _ _ => Rp.mono g
            replace al_law_truths := al_law_truths.mono fun _ _ => Rp.mono g
            replace r_law_k := Rp.mono g r_law_k
            replace r_law_cell := Rp.mono g r_law_cell
            replace r_law_at := Rp.mono g r_law_at
            replace gL320 := gL320.trans g
            replace e0 := e0.trans e
            replace eM320 := eM320.trans e
            obtain ⟨x_law_due, hx, hm⟩ := bnd hm
            refine st_newM (x_lst (l_cons (x_ixL (eb_v rfl (Rp.mono A.ex r_law_begins)) (eb_int (K := K))) (l_nil (K := K)))) hx A fun p_law_due vs_law_due G341 H342 hp_law_due g e A al_law_due => ?_
            have ne0_law_due := e0.back hp_law_due
            have neM320_law_due := eM320.back hp_law_due
            replace r_law_script := Rp.mono g r_law_script
            replace r_law_most := Rp.mono g r_law_most
            replace al_law_ahead := al_law_ahead.mono fun _ _ => Rp.mono g
            replace r_law_begins := Rp.mono g r_law_begins
            replace al_law_kept := al_law_kept.mono fun _ _ => Rp.mono g
            replace al_law_truths := al_law_truths.mono fun _ _ => Rp.mono g
            replace r_law_k := Rp.mono g r_law_k
            replace r_law_cell := Rp.mono g r_law_cell
            replace r_law_at := Rp.mono g r_law_at
            replace r_law_found := Rp.mono g r_law_found
            replace gL320 := gL320.trans g
            replace e0 := e0.trans e
            replace eM320 := eM320.trans e
            obtain ⟨xs343, hx343, hm⟩ := bnd hm
            obtain ⟨w343, hl343, hm⟩ := bnd hm
            refine st_for (M := [p_law_due]) (i_rng2 (eb_int (K := K)) (x_lenL (eb_v rfl (Rp.mono A.ex r_law_begins)))) hx343 fun J343 HL343 e wk343 => ?_
            replace A := A.grow e
            replace e0 := e0.trans e
            replace eM320 := eM320.trans e
            have eM343 : Gx (mns HL343 [p_law_due]) HL343 := mns_ex
            have gL343 : Gx G341 G341 := Gx.rfl
            have neM343_law_due : (mns HL343 [p_law_due]) p_law_due = none := mns_in (by simp)
            obtain ⟨o343_law_truths, ho343_law_truths, A⟩ := at_obj (L1 := [_]) A
            obtain ⟨o343_law_kept, ho343_law_kept, A⟩ := at_obj (L1 := [_, _]) A
            obtain ⟨o343_law_ahead, ho343_law_ahead, A⟩ := at_obj (L1 := [_, _, _]) A
            refine fold_run wk343 hl343 tg_n (fun (s343 : (List Int)) (σ : L2.St) (H : Hp) => exists (Gi : Hp) (k_law_j : Option V) (vs_law_due : List V), σ = [some v_law_script, some v_law_most, some (.ref p_law_ahead), some v_law_k, some v_law_cell, some v_law_begins, some (.ref p_law_kept), some (.ref p_law_truths), some v_law_at, some v_law_found, some (.ref p_law_due), k_law_j, none, none, none, none] ∧ Gx H0 H ∧ Gx (mns HL320 [p_law_kept, p_law_truths]) H ∧ Gx (mns HL343 [p_law_due]) H ∧ Gx G318 Gi ∧ Gx G341 Gi ∧ At Gi H [(p_law_due, HO.lst vs_law_due), (p_law_truths, o343_law_truths), (p_law_kept, o343_law_kept), (p_law_ahead, o343_law_ahead)] ∧ Al (rp K Gi) vs_law_due s343) (fun s σ H h => ?_) ?_ (fun s343 x343 o343 σ H347 H345 σ2 hxm hf hin e hb => ?_) (fun σ H357 hin => ?_)
            · obtain ⟨Gi, k_law_j, vs_law_due, rfl, e0, eM320, eM343, gL320, gL343, A, al_law_due⟩ := h
              exact eM343
            · exact ⟨_, _, _, rfl, e0, eM320, eM343, gL320, gL343, A, al_law_due⟩
            · obtain ⟨G344, k_law_j, vs_law_due, rfl, e0, eM320, eM343, gL320, gL343, A, al_law_due⟩ := hin
              subst ho343_law_truths
              subst ho343_law_kept
              subst ho343_law_ahead
              obtain ⟨v_law_j, r_law_j, rfl⟩ := hb
              replace A := A.grow e
              replace e0 := e0.trans e
              replace eM320 := eM320.trans e
              replace eM343 := eM343.trans e
              replace r_law_script := Rp.mono gL343 r_law_script
              replace r_law_most := Rp.mono gL343 r_law_most
              replace al_law_ahead := al_law_ahead.mono fun _ _ => Rp.mono gL343
              replace r_law_begins := Rp.mono gL343 r_law_begins
              replace al_law_kept := al_law_kept.mono fun _ _ => Rp.mono gL343
              replace al_law_truths := al_law_truths.mono fun _ _ => Rp.mono gL343
              replace r_law_k := Rp.mono gL343 r_law_k
              replace r_law_cell := Rp.mono gL343 r_law_cell
              replace r_law_at := Rp.mono gL343 r_law_at
              replace r_law_found := Rp.mono gL343 r_law_found
              replace r_law_j := Im.im A.tx r_law_j
              have g := A.gh
              replace A := A.hid
              replace r_law_script := Rp.mono g r_law_script
              replace r_law_most := Rp.mono g r_law_most
              replace al_law_ahead := al_law_ahead.mono fun _ _ => Rp.mono g
              replace r_law_begins := Rp.mono g r_law_begins
              replace al_law_kept := al_law_kept.mono fun _ _ => Rp.mono g
              replace al_law_truths := al_law_truths.mono fun _ _ => Rp.mono g
              replace r_law_k := Rp.mono g r_law_k
              replace r_law_cell := Rp.mono g r_law_cell
              replace r_law_at := Rp.mono g r_law_at
              replace r_law_found := Rp.mono g r_law_found
              replace al_law_due := al_law_due.mono fun _ _ => Rp.mono g
              replace gL320 := gL320.trans g
              replace gL343 := gL343.trans g
              generalize hid _ _ = G348 at *
              have hm := hf
              unfold m_law_l3 at hm
              obtain ⟨b350, hb350, hm⟩ := bnd hm
              refine st_if (et_b (x_any ((x_lc (i_list (es_b (eb_v rfl (mv_rp A (List.Mem.tail _ (List.Mem.head _)) al_law_truths)))) tg_n (bi_n (by decide)) (fun y349 σc Hc gh349 hb349 => by obtain ⟨c349v_law_some, c349r_law_some, rfl⟩ := hb349; exact t_yes) (fun y349 σc Hc gh349 hb349 => by obtain ⟨c349v_law_some, c349r_law_some, rfl⟩ := hb349; exact (x_ne (by decide) (x_ixL (eb_v rfl c349r_law_some) (x_sub (eb_v rfl (Rp.mono gh349 (Rp.mono A.ex r_law_j))) (eb_int (K := K)))) (x_ixL (eb_v rfl c349r_law_some) (eb_v rfl (Rp.mono gh349 (Rp.mono A.ex r_law_j)))))))).b)) hb350 (fun eb350 H351 e => ?_) (fun eb350 H351 e => ?_)
              · subst eb350
                replace hm := itt hm
                replace A := A.grow e
                replace e0 := e0.trans e
                replace eM320 := eM320.trans e
                replace eM343 := eM343.trans e
                obtain ⟨y352, hy352, hm⟩ := bnd hm
                obtain ⟨x_law_due, hd, hm⟩ := bnd hm
                replace hd := fApps hd
                refine st_app (L1 := []) (slot_ref rfl) ((x_ixL (eb_v rfl (Rp.mono A.ex r_law_begins)) (eb_v rfl (Rp.mono A.ex r_law_j)))).own hy352 A (by rw [al_law_due.len]; exact hd.2) fun v_y352 G353 H354 g e A r_y352 => ?_
                replace r_law_script := Rp.mono g r_law_script
                replace r_law_most := Rp.mono g r_law_most
                replace al_law_ahead := al_law_ahead.mono fun _ _ => Rp.mono g
                replace r_law_begins := Rp.mono g r_law_begins
                replace al_law_kept := al_law_kept.mono fun _ _ => Rp.mono g
                replace al_law_truths := al_law_truths.mono fun _ _ => Rp.mono g
                replace r_law_k := Rp.mono g r_law_k
                replace r_law_cell := Rp.mono g r_law_cell
                replace r_law_at := Rp.mono g r_law_at
                replace r_law_found := Rp.mono g r_law_found
                replace al_law_due := al_law_due.mono fun _ _ => Rp.mono g
                replace r_law_j := Rp.mono g r_law_j
                replace gL320 := gL320.trans g
                replace gL343 := gL343.trans g
                replace e0 := e0.trans e
                replace eM320 := eM320.trans e
                replace eM343 := eM343.trans e
                replace al_law_due := al_law_due.app (Al.one r_y352)
                rw [← hd.1] at al_law_due
                replace e0 := Gx.mutA e0 ne0_law_due A
                replace eM320 := Gx.mutA eM320 neM320_law_due A
                replace eM343 := Gx.mutA eM343 neM343_law_due A
                generalize upd _ p_law_due (.lst _) = H355 at A e0 eM320 eM343 ⊢
                obtain rfl := Option.some.inj hm
                exact ⟨_, _, _, rfl, e0, eM320, eM343, gL320, gL343, A, al_law_due⟩
              · subst eb350
                replace hm := itf hm
                replace A := A.grow e
                replace e0 := e0.trans e
                replace eM320 := eM320.trans e
                replace eM343 := eM343.trans e
                obtain rfl := Option.some.inj hm
                exact ⟨_, _, _, rfl, e0, eM320, eM343, gL320, gL343, A, al_law_due⟩
            · obtain ⟨G356, k_law_j, vs_law_due, rfl, e0, eM320, eM343, gL320, gL343, A, al_law_due⟩ := hin
              subst ho343_law_truths
              subst ho343_law_kept
              subst ho343_law_ahead
              replace r_law_script := Rp.mono gL343 r_law_script
              replace r_law_most := Rp.mono gL343 r_law_most
              replace al_law_ahead := al_law_ahead.mono fun _ _ => Rp.mono gL343
              replace r_law_begins := Rp.mono gL343 r_law_begins
              replace al_law_kept := al_law_kept.mono fun _ _ => Rp.mono gL343
              replace al_law_truths := al_law_truths.mono fun _ _ => Rp.mono gL343
              replace r_law_k := Rp.mono gL343 r_law_k
              replace r_law_cell := Rp.mono gL343 r_law_cell
              replace r_law_at := Rp.mono gL343 r_law_at
              replace r_law_found := Rp.mono gL343 r_law_found
              obtain ⟨b359, hb359, hm⟩ := bnd hm
              refine st_if (et_test (x_ne (by decide) ((x_lc (i_list (es_b (eb_v rfl (Rp.mono A.ex r_law_found)))) (tg_p tg_n tg_n) (bi_p (bi_n (by decide)) (bi_n (by decide))) (fun y358 σc Hc gh358 hb358 => by obtain ⟨_, ⟨c358v_law_low, c358r_law_low, rfl⟩, ⟨c358v_law_high, c358r_law_high, rfl⟩⟩ := hb358; exact t_yes) (fun y358 σc Hc gh358 hb358 => by obtain ⟨_, ⟨c358v_law_low, c358r_law_low, rfl⟩, ⟨c358v_law_high, c358r_law_high, rfl⟩⟩ := hb358; exact (eb_v rfl c358r_law_low)))).b (eb_v rfl (mv_rp A (List.Mem.head _) al_law_due)))) hb359 (fun eb359 H360 e => ?_) (fun eb359 H360 e => ?_)
              · subst eb359
                replace hm := itt hm
                replace A := A.grow e
                replace e0 := e0.trans e
                replace eM320 := eM320.trans e
                obtain ⟨y361, hy361, hm⟩ := bnd hm
                have er := hret320 y361 (Option.some.inj hm).symm
                subst er
                exact sr_b (eb_bl (K := K)) hy361 fun w H e r => q w H (e0.trans e) r
              · subst eb359
                replace hm := itf hm
                replace A := A.grow e
                replace e0 := e0.trans e
                replace eM320 := eM320.trans e
                replace A := At.drop (L1 := [_]) A
                exact ⟨_, (Option.some.inj hm).symm, _, _, _, _, _, _, _, _, _, rfl, e0, eM320, gL320, A, al_law_kept, al_law_truths⟩
      · obtain ⟨G362, k_law_k, k_law_cell, k_law_at, k_law_found, k_law_due, k_law_j, vs_law_kept, vs_law_truths, rfl, e0, eM320, gL320, A, al_law_kept, al_law_truths⟩ := hin
        subst ho320_law_ahead
        replace r_law_script := Rp.mono gL320 r_law_script
        replace r_law_most := Rp.mono gL320 r_law_most
        replace al_law_ahead := al_law_ahead.mono fun _ _ => Rp.mono gL320
        replace r_law_begins := Rp.mono gL320 r_law_begins
        subst hres
        replace hm := finl hm
        exact sr_b (eb_bl (K := K)) hm fun w H e r => q w H (e0.trans e) r
end Law

set_option Elab.async false
set_option linter.all false
set_option maxRecDepth 100000
namespace Law
open PySem PySem.Spec PyProof.Rows L2 Pu
open Pu.Rp (rp)
theorem mixed_ok (c k : Int) : exists v, m_law_mixed c k = some v ∧ 0 ≤ v ∧ v < 1000003 := by
  have h0 : (0 : Int) < 1000003 := by decide
  have b1 := Int.emod_nonneg (c * 48271 + 7919 * k + 11) (show (1000003 : Int) ≠ 0 by decide)
  have b2 := Int.emod_lt_of_pos (c * 48271 + 7919 * k + 11) h0
  unfold m_law_mixed
  simp only [o2, Option.bind_some, fAdd]
  rw [fMul_1 (i := c) (j := 48271) (by omega), fMul_1 (i := 7919) (j := k) (by omega)]
  simp only [Option.bind_some]
  rw [fMod_1 h0]
  generalize (c * 48271 + 7919 * k + 11) % 1000003 = n at b1 b2
  simp only [Option.bind_some]
  rw [fMul_1 (i := n) (j := n) (by omega)]
  simp only [Option.bind_some]
  rw [fMod_1 h0]
  simp only [Option.bind_some]
  rw [fMul_1 (i := n * n % 1000003) (j := n) (by omega)]
  simp only [Option.bind_some]
  rw [fMod_1 h0]
  exact ⟨_, rfl, Int.emod_nonneg _ (show (1000003 : Int) ≠ 0 by decide), Int.emod_lt_of_pos _ h0⟩
theorem great_ok (c k : Int) : exists v, m_law_great c k = some v ∧ 0 ≤ v ∧ v < 1000000000000 := by
  obtain ⟨a, ea, a0, a1⟩ := mixed_ok c k
  obtain ⟨b, eb, b0, b1⟩ := mixed_ok c (k + 500)
  refine ⟨(a * 1000003 + b) % 1000000000000, ?_, Int.emod_nonneg _ (by decide), Int.emod_lt_of_pos _ (by decide)⟩
  unfold m_law_great
  simp only [o2, Option.bind_some, fAdd, ea, eb]
  rw [fMul_1 (by omega), show fPow 10 12 = some 1000000000000 from rfl]
  simp only [Option.bind_some]
  rw [fMod_1 (by decide)]
theorem point_ok (c k most : Int) (ahead : List Int) (hm : 0 ≤ most) : exists v, m_law_point c k most ahead = some v ∧ 0 ≤ v ∧ v ≤ most := by
  obtain ⟨w, ew, w0, w1⟩ := mixed_ok c (3 * k + 20)
  obtain ⟨g, eg, g0, g1⟩ := great_ok c k
  have e1 : fMul 3 k = some (3 * k) := fMul_1 (by omega)
  have hlast : exists v, (o2 fMod (o2 m_law_great (some c) (some k)) (o2 fAdd (some most) (some (1 : Int)))) = some v ∧ 0 ≤ v ∧ v ≤ most := by
    refine ⟨g % (most + 1), ?_, Int.emod_nonneg _ (by omega), ?_⟩
    · simp only [o2, Option.bind_some, fAdd, eg]
      rw [fMod_1 (by omega)]
    · have := Int.emod_lt_of_pos g (show 0 < most + 1 by omega)
      omega
  unfold m_law_point
  simp only [o2, Option.bind_some, fAdd, e1, ew, oAnd, fNe, o1, szOk, fEq, fMod_1 (show (0 : Int) < 2 by decide), List.length_nil, Nat.zero_le, if_true]
  simp only [o2, Option.bind_some, fAdd] at hlast
  by_cases ha : ahead = []
  · simp [ha, hlast]
  · simp only [decide_eq_false ha, Bool.not_false, if_true, Option.bind_some]
    by_cases hw : w % 2 = 0
    · simp only [hw, decide_true, if_true]
      have hl : (0 : Int) < (ahead.length : Int) := by
        have := List.length_pos_iff.mpr ha
        omega
      obtain ⟨z, ez, _⟩ := ix_nat (s := ahead) (i := w / 6 % (ahead.length : Int)) (Int.emod_nonneg _ (by omega)) (Int.emod_lt_of_pos _ hl)
      simp only [fLen, fDiv_1 (show (0 : Int) < 6 ∧ (6 : Int) < 1073741824 by decide), fDiv_1 (show (0 : Int) < 2 ∧ (2 : Int) < 1073741824 by decide), fMod_1 (show (0 : Int) < 3 by decide), Option.bind_some, fMod_1 hl, ez, fSub, fMin, fMax]
      refine ⟨_, rfl, ?_, ?_⟩
      · have := @imax_le 0 (imin most (z + w / 2 % 3 - 1)); omega
      · have := @imax_le 0 (imin most (z + w / 2 % 3 - 1))
        have := @imin_le most (z + w / 2 % 3 - 1); omega
    · simp only [hw, decide_false, Bool.false_eq_true, if_false]
      exact hlast
theorem sum_nn : forall {r : List Int}, (forall y, y ∈ r -> 0 ≤ y) -> 0 ≤ r.sum
  | [], _ => by simp
  | x :: r, h => by
    have := sum_nn fun y hy => h y (List.mem_cons_of_mem x hy)
    have := h x List.mem_cons_self
    simp only [List.sum_cons]
    omega
theorem most_ok (ns : List Int) (hl : ns.length ≤ 63) : exists v, m_law_most_by ⟨ns⟩ = some v ∧ 0 ≤ v ∧ v ≤ 1000000000000 := by
  unfold m_law_most_by
  have hc := cutM_len ns none (some 80)
  obtain ⟨r, er, lr, pr⟩ := comp_ex (f := fun y : Int => o2 m_law_mixed (some y) (some (3 : Int))) (P := fun y => 0 ≤ y) (xs := cutM ns none (some 80)) fun x _ => by
    obtain ⟨v, e, a, b⟩ := mixed_ok x 3
    exact ⟨v, e, a⟩
  simp only [o3, fCutS, Option.bind_some, Option.map_some, oComp, lim]
  rw [if_pos (by omega)]
  simp only [Option.bind_some, er, o1, fSum]
  have hs := sum_nn pr
  generalize r.sum = s at hs
  obtain ⟨g, eg, g0, g1⟩ := great_ok s 5
  have b0 := Int.emod_nonneg s (show (40 : Int) ≠ 0 by decide)
  have b1 := Int.emod_lt_of_pos s (show (0 : Int) < 40 by decide)
  have d0 := Int.emod_nonneg s (show (7 : Int) ≠ 0 by decide)
  have d1 := Int.emod_lt_of_pos s (show (0 : Int) < 7 by decide)
  have c0 := Int.emod_nonneg (s / 40) (show (4 : Int) ≠ 0 by decide)
  have c1 := Int.emod_lt_of_pos (s / 40) (show (0 : Int) < 4 by decide)
  simp only [o2, Option.bind_some, eg, fMod_1 (show (0 : Int) < 40 by decide), fMod_1 (show (0 : Int) < 7 by decide), fMod_1 (show (0 : Int) < 4 by decide), fDiv_1 (show (0 : Int) < 40 ∧ (40 : Int) < 1073741824 by decide), show fPow 10 12 = some 1000000000000 from rfl, fCons, szOk, List.length_cons, List.length_nil]
  rw [if_pos (by decide)]
  simp only [Option.bind_some]
  obtain ⟨v, ev, hv, _⟩ := ix_nat (s := [s % 40, 1000000000000, g, s % 7]) (i := s / 40 % 4) c0 (by simpa using c1)
  refine ⟨v, ev, ?_⟩
  simp only [List.mem_cons, List.not_mem_nil, or_false] at hv
  rcases hv with h | h | h | h <;> omega
/-- the stretches are within the most -/
def Wd (most : Int) (L : List (Int × Int)) : Prop := forall p, p ∈ L -> 0 ≤ p.1 ∧ p.1 ≤ p.2 ∧ p.2 ≤ most
theorem fNeg_1 : o1 fNeg (some (1 : Int)) = some (-1) := rfl
theorem mstep_nil (x : Int × Int) : m_merged_l1 [] x = some [x] := rfl
theorem mstep (s : List (Int × Int)) (l x : Int × Int) (h : s.length ≤ 1000) : m_merged_l1 (s ++ [l]) x = some (if x.1 ≤ l.2 + 1 then s ++ [(l.1, imax l.2 x.2)] else s ++ [l] ++ [x]) := by
  unfold m_merged_l1
  have ht : fTru (s ++ [l]) = some true := by unfold fTru; simp
  rw [fNeg_1]
  simp only [o1, o2, oAnd, Option.bind_some, ht, ix_last, fSnd, fAdd, fLe, if_true, fPop_last, fPair, fMax, fApp]
  by_cases c : x.1 ≤ l.2 + 1
  · rw [if_pos c, if_pos (decide_eq_true c), if_pos (by omega)]
    rfl
  · rw [if_neg c, if_neg (by simpa using c), if_pos (by simp; omega)]
    rfl
theorem merged_fold : forall (xs s : List (Int × Int)), Nrm s -> (forall p, p ∈ xs -> p.1 ≤ p.2) -> xs.Pairwise (fun p q => p.1 ≤ q.1) -> (forall p, p ∈ s -> forall x, x ∈ xs -> p.1 ≤ x.1) -> s.length + xs.length ≤ 1000 ->
    exists t, foldO m_merged_l1 s xs = some t ∧ Nrm t ∧ (forall n, inn t n ↔ inn s n ∨ inn xs n) ∧ t.length ≤ s.length + xs.length
  | [], s, h, _, _, _, _ => ⟨s, rfl, h, fun n => ⟨.inl, fun a => a.elim id fun a => (inn_nil a).elim⟩, Nat.le_refl _⟩
  | x :: xs, s, h, hp, hw, hs, hl => by
    have hp' : forall p, p ∈ xs -> p.1 ≤ p.2 := fun p h => hp p (List.mem_cons_of_mem _ h)
    have hx := hp x List.mem_cons_self
    obtain ⟨hw1, hw2⟩ := List.pairwise_cons.mp hw
    simp only [List.length_cons] at hl
    have main : exists s', m_merged_l1 s x = some s' ∧ Nrm s' ∧ (forall p, p ∈ s' -> forall y, y ∈ xs -> p.1 ≤ y.1) ∧ s'.length ≤ s.length + 1 ∧ forall n, inn s' n ↔ inn s n ∨ (x.1 ≤ n ∧ n ≤ x.2) := by
      rcases snoc s with rfl | ⟨s0, l, rfl⟩
      · refine ⟨[x], mstep_nil x, ⟨fun p hp => by rw [List.mem_singleton.mp hp]; exact hx, List.pairwise_singleton _ _⟩, fun p hp y hy => by rw [List.mem_singleton.mp hp]; exact hw1 y hy, by simp, fun n => ?_⟩
        rw [inn_one]
        exact ⟨.inr, fun a => a.elim (fun a => (inn_nil a).elim) id⟩
      · have hl0 : s0.length ≤ 1000 := by simp at hl; omega
        obtain ⟨a1, a2⟩ := h.last
        have lx : l.1 ≤ x.1 := hs l (by simp) x List.mem_cons_self
        have mx := @imax_le l.2 x.2
        rw [mstep s0 l x hl0]
        refine ⟨_, rfl, ?_⟩
        by_cases c : x.1 ≤ l.2 + 1
        · rw [if_pos c]
          refine ⟨h.init.snoc (by simp only; omega) a2, fun p hp y hy => ?_, by simp, fun n => ?_⟩
          · rcases List.mem_append.mp hp with hp | hp
            · exact hs p (List.mem_append_left _ hp) y (List.mem_cons_of_mem _ hy)
            · rw [List.mem_singleton.mp hp]
              exact hs l (by simp) y (List.mem_cons_of_mem _ hy)
          · rw [inn_app, inn_app, inn_one, inn_one]
            simp only
            constructor
            · rintro (a | a)
              · exact .inl (.inl a)
              · by_cases d : n ≤ l.2
                · exact .inl (.inr ⟨a.1, d⟩)
                · exact .inr (by omega)
            · rintro ((a | a) | a)
              · exact .inl a
              · exact .inr (by omega)
              · exact .inr (by omega)
        · rw [if_neg c]
          refine ⟨h.snoc hx fun q hq => ?_, fun p hp y hy => ?_, by simp, fun n => by rw [inn_app, inn_one]⟩
          · rcases List.mem_append.mp hq with hq | hq
            · have := a2 q hq; omega
            · rw [List.mem_singleton.mp hq]; omega
          · rcases List.mem_append.mp hp with hp | hp
            · exact hs p hp y (List.mem_cons_of_mem _ hy)
            · rw [List.mem_singleton.mp hp]; exact hw1 y hy
    obtain ⟨s', e, n1, n2, n3, n4⟩ := main
    obtain ⟨t, e2, t1, t2, t3⟩ := merged_fold xs s' n1 hp' hw2 n2 (by omega)
    refine ⟨t, ?_, t1, fun n => ?_, by simp only [List.length_cons]; omega⟩
    · unfold foldO
      rw [e]
      exact e2
    · rw [t2, n4, inn_cons]
      exact or_assoc
theorem merged_ok (xs : List (Int × Int)) (hp : forall p, p ∈ xs -> p.1 ≤ p.2) (hw : xs.Pairwise (fun p q => p.1 ≤ q.1)) (hl : xs.length ≤ 1000) :
    exists t, m_merged xs = some ⟨t⟩ ∧ Nrm t ∧ (forall n, inn t n ↔ inn xs n) ∧ t.length ≤ xs.length := by
  obtain ⟨t, e, a, b, c⟩ := merged_fold xs [] Nrm.nil hp hw (fun _ h => nomatch h) (by simpa using hl)
  refine ⟨t, ?_, a, fun n => (b n).trans ⟨fun h => h.elim (fun h => (inn_nil h).elim) id, .inr⟩, by simpa using c⟩
  unfold m_merged
  simp only [Option.bind_some, e, o1, fTuple]
theorem whole_ok {most n : Int} (h0 : 0 ≤ n) (h1 : n ≤ most) : m_whole_to most n = some true := by
  unfold m_whole_to
  simp [o1, oAnd, oNot, fIs, oChain, fLe, h0, h1]
theorem stretch_ok {most : Int} {p : Int × Int} (h : 0 ≤ p.1 ∧ p.1 ≤ p.2 ∧ p.2 ≤ most) : m_is_stretch most p = some true := by
  unfold m_is_stretch
  simp only [o1, oOr, oNot, fIs, o2, fNe, fLen2, Option.bind_some, oAnd, fLe]
  rw [whole_ok h.1 (by omega), whole_ok (by omega) h.2.2]
  simp [h.2.1]
theorem set_fold {most : Int} : forall (xs : List (Int × Int)), Wd most xs -> foldO (m_set_of_l1 most) () xs = some ()
  | [], _ => rfl
  | x :: xs, h => by
    unfold foldO m_set_of_l1
    simp only [o2, Option.bind_some, stretch_ok (h x List.mem_cons_self), oNot]
    exact set_fold xs fun p hp => h p (List.mem_cons_of_mem _ hp)
theorem set_ok {most : Int} {xs : List (Int × Int)} (h : Wd most xs) (hl : xs.length ≤ 1000) : exists t, m_set_of most xs = some ⟨t⟩ ∧ Nrm t ∧ (forall n, inn t n ↔ inn xs n) ∧ t.length ≤ xs.length := by
  obtain ⟨t, e, a, b, l⟩ := merged_ok (psort xs) (fun p hp => (h p ((psort_mem p).mp hp)).2.1) (psort_low xs) (by rw [psort_len]; exact hl)
  refine ⟨t, ?_, a, fun n => (b n).trans (inn_of fun p => psort_mem p), by rw [psort_len] at l; exact l⟩
  unfold m_set_of
  simp only [o1, oNot, fIs, Option.bind_some, Bool.not_true, Bool.false_eq_true, if_false, set_fold xs h, fSortP, e]
theorem joined_ok {xs ys : List (Int × Int)} (h : forall p, p ∈ xs -> p.1 ≤ p.2) (h2 : forall p, p ∈ ys -> p.1 ≤ p.2) (hl : xs.length + ys.length ≤ 1000) :
    exists t, m_joined ⟨xs⟩ ⟨ys⟩ = some ⟨t⟩ ∧ Nrm t ∧ (forall n, inn t n ↔ inn xs n ∨ inn ys n) ∧ t.length ≤ xs.length + ys.length := by
  obtain ⟨t, e, a, b, c⟩ := merged_ok (psort (xs ++ ys)) (fun p hp => by
    rcases List.mem_append.mp ((psort_mem p).mp hp) with hp | hp
    · exact h p hp
    · exact h2 p hp) (psort_low _) (by rw [psort_len, List.length_append]; exact hl)
  refine ⟨t, ?_, a, fun n => ((b n).trans (inn_of fun p => psort_mem p)).trans inn_app, by rw [psort_len, List.length_append] at c; exact c⟩
  unfold m_joined
  simp only [o1, o2, fCatT, szOk, Option.bind_some, List.length_append]
  rw [if_pos (by omega)]
  simp only [Option.map_some, Option.bind_some, fSortPT, e]
def inb (L : List (Int × Int)) (n : Int) : Bool := L.any fun p => decide (p.1 ≤ n) && decide (n ≤ p.2)
theorem inb_iff {L : List (Int × Int)} {n : Int} : inb L n = true ↔ inn L n := by
  unfold inb inn
  rw [List.any_eq_true]
  simp
def tri (most : Int) (f : Int -> Bool) : List Int -> List (T3 Int Int Bool)
  | [] => []
  | [b] => [⟨b, most + 1, f b⟩]
  | b :: e :: r => ⟨b, e, f b⟩ :: tri most f (e :: r)
theorem zip3_cons {A B C : Type} (x : A) (y : B) (z : C) (xs : List A) (ys : List B) (zs : List C) : zip3 (x :: xs) (y :: ys) (z :: zs) = ⟨x, y, z⟩ :: zip3 xs ys zs := rfl
theorem zip3_tri (most : Int) (f : Int -> Bool) : forall bs : List Int, zip3 bs (bs.drop 1 ++ [most + 1]) (bs.map f) = tri most f bs
  | [] => rfl
  | [b] => rfl
  | b :: e :: r => by
    have h := zip3_tri most f (e :: r)
    simp only [List.drop_succ_cons, List.drop_zero, List.map_cons, List.cons_append] at h ⊢
    rw [zip3_cons, h]
    rfl
theorem cutM_1 {A : Type} (xs : List A) : cutM xs (some 1) none = xs.drop 1 := by
  cases xs with
  | nil => rfl
  | cons x r =>
    unfold cutM
    simp [HT.sIx]

def sz (L : List (Int × Int)) : Int := (L.map fun p => p.2 - p.1 + 1).sum
def hd (L : List (Int × Int)) : Option Int := L.head?.map (·.1)
theorem sz_app (L : List (Int × Int)) (p : Int × Int) : sz (L ++ [p]) = sz L + (p.2 - p.1 + 1) := by
  unfold sz
  simp
theorem hd_app (L : List (Int × Int)) (p : Int × Int) : hd (L ++ [p]) = (hd L).or (some p.1) := by
  unfold hd
  cases L <;> simp

theorem made_1 (f : Int -> Bool) (s : List (Int × Int)) (b e : Int) (hb : b < e) (hc : forall n, b < n -> n < e -> f n = f (n - 1))
    (hs : Nrm s) (h1 : forall p, p ∈ s -> p.2 < b) (hl : s.length ≤ 1000) :
    exists t, m_law_made_l1 s ⟨b, e, f b⟩ = some t ∧ Nrm t ∧ (forall p, p ∈ t -> p.2 < e) ∧ (forall n, inn t n ↔ inn s n ∨ (b ≤ n ∧ n < e ∧ f n = true)) ∧ t.length ≤ s.length + 1 ∧ sz t = sz s + (if f b = true then e - b else 0) ∧ hd t = (hd s).or (if f b = true then some b else none) := by
  have flat : forall k : Nat, b + k < e -> f (b + k) = f b := by
    intro k
    induction k with
    | zero => intro _; simp
    | succ k ih =>
      intro hk
      rw [← ih (by omega), hc (b + ((k + 1 : Nat) : Int)) (by omega) hk]
      congr 1
      omega
  have flat2 : forall n, b ≤ n -> n < e -> f n = f b := fun n x y => by
    have := flat (n - b).toNat (by omega)
    rwa [show b + ((n - b).toNat : Int) = n by omega] at this
  unfold m_law_made_l1
  cases ht : f b with
  | false =>
    refine ⟨s, rfl, hs, fun p hp => by have := h1 p hp; omega, fun n => ⟨.inl, fun h => h.elim id fun ⟨x, y, z⟩ => ?_⟩, by omega, by simp, by simp⟩
    rw [flat2 n x y, ht] at z
    cases z
  | true =>
    have hn : forall t, (forall n, inn t n ↔ inn s n ∨ (b ≤ n ∧ n ≤ e - 1)) -> forall n, inn t n ↔ inn s n ∨ (b ≤ n ∧ n < e ∧ f n = true) := fun t q n => by
      rw [q]
      constructor
      · rintro (x | ⟨x, y⟩)
        · exact .inl x
        · exact .inr ⟨x, by omega, (flat2 n x (by omega)).trans ht⟩
      · rintro (x | ⟨x, y, _⟩)
        · exact .inl x
        · exact .inr ⟨x, by omega⟩
    have app : exists t, ((o2 fPair (some b) (o2 fSub (some e) (some (1 : Int)))).bind fun y => (fApp s y).bind fun x_law_found => some x_law_found) = some t ∧ t = s ++ [(b, e - 1)] := by
      refine ⟨_, ?_, rfl⟩
      simp only [o2, fPair, fSub, Option.bind_some, fApp]
      rw [if_pos (by omega)]
      rfl
    obtain ⟨t0, ea, et⟩ := app
    rcases snoc s with rfl | ⟨s0, l, rfl⟩
    · refine ⟨t0, ?_, ?_⟩
      · rw [fNeg_1]
        simp only [oAnd, Option.bind_some, if_true, o2, fNe, o1, szOk, List.length_nil, Nat.zero_le, decide_true, Bool.not_true, Bool.false_eq_true, if_false]
        exact ea
      · rw [et]
        have nr : Nrm ([] ++ [(b, e - 1)]) := Nrm.snoc hs (by simp only; omega) fun q hq => nomatch hq
        refine ⟨nr, fun p hp => by rw [List.mem_singleton.mp hp]; simp only; omega, hn _ fun n => by rw [inn_app, inn_one], by simp, by first | (simp [sz]; done) | (simp [sz]; omega), by simp [hd]⟩
    · have hne : ¬ s0 ++ [l] = [] := by simp
      have l1 := h1 l (by simp)
      obtain ⟨a1, a2⟩ := hs.last
      rw [fNeg_1]
      simp only [oAnd, Option.bind_some, if_true, o2, fNe, o1, szOk, List.length_nil, Nat.zero_le, decide_eq_false hne, Bool.not_false, ix_last, fSnd, fAdd, fEq, fFst, fSub, fPair, fSet_last]
      by_cases hq : l.2 + 1 = b
      · simp only [hq, decide_true, if_true]
        have nr : Nrm (s0 ++ [(l.1, e - 1)]) := hs.init.snoc (by simp only; omega) a2
        refine ⟨_, rfl, nr, fun p hp => ?_, hn _ fun n => ?_, by simp, by rw [sz_app, sz_app]; simp only [if_true]; omega, by rw [hd_app, hd_app]; cases hd s0 <;> simp⟩
        · rcases List.mem_append.mp hp with hp | hp
          · have := h1 p (List.mem_append_left _ hp); omega
          · rw [List.mem_singleton.mp hp]; simp only; omega
        · rw [inn_app, inn_app, inn_one, inn_one]
          simp only
          constructor
          · rintro (x | x)
            · exact .inl (.inl x)
            · by_cases z : n ≤ l.2
              · exact .inl (.inr ⟨x.1, z⟩)
              · exact .inr ⟨by omega, x.2⟩
          · rintro ((x | x) | x)
            · exact .inl x
            · exact .inr (by omega)
            · exact .inr (by omega)
      · simp only [hq, decide_false, Bool.false_eq_true, if_false]
        refine ⟨t0, ?_, ?_⟩
        · simp only [o2, fPair, fSub, Option.bind_some] at ea
          exact ea
        · rw [et]
          have nr : Nrm (s0 ++ [l] ++ [(b, e - 1)]) := hs.snoc (by simp only; omega) fun q hq2 => by
            rcases List.mem_append.mp hq2 with z | z
            · have := a2 q z
              simp only; omega
            · rw [List.mem_singleton.mp z]; simp only; omega
          refine ⟨nr, fun p hp => ?_, hn _ fun n => by rw [inn_app, inn_one], by simp, by rw [sz_app]; simp only [if_true]; omega, by first | (rw [hd_app]; done) | (rw [hd_app]; simp)⟩
          rcases List.mem_append.mp hp with hp | hp
          · have := h1 p hp; omega
          · rw [List.mem_singleton.mp hp]; simp only; omega

def tsum (most : Int) (f : Int -> Bool) : List Int -> Int
  | [] => 0
  | [b] => if f b = true then most + 1 - b else 0
  | b :: e :: r => (if f b = true then e - b else 0) + tsum most f (e :: r)
theorem made_fold (most : Int) (f : Int -> Bool) : forall (bs : List Int) (b : Int) (s : List (Int × Int)), (b :: bs).Pairwise (· < ·) -> (forall c, c ∈ b :: bs -> c ≤ most) ->
    (forall n, b < n -> n ≤ most -> n ∉ b :: bs -> f n = f (n - 1)) -> Nrm s -> (forall p, p ∈ s -> p.2 < b) -> s.length + bs.length ≤ 1000 ->
    exists t, foldO m_law_made_l1 s (tri most f (b :: bs)) = some t ∧ Nrm t ∧ (forall n, inn t n ↔ inn s n ∨ (b ≤ n ∧ n ≤ most ∧ f n = true)) ∧ t.length ≤ s.length + (bs.length + 1) ∧ sz t = sz s + tsum most f (b :: bs) ∧ hd t = (hd s).or (((b :: bs).filter f).head?)
  | [], b, s, hp, hm, hc, hs, h1, hl => by
    obtain ⟨t, e, a, _, c, d, e1, e2⟩ := made_1 f s b (most + 1) (by have := hm b List.mem_cons_self; omega) (fun n g1 g2 => hc n g1 (by omega) fun z => by
      rw [List.mem_singleton.mp z] at g1
      omega) hs h1 (by simpa using hl)
    refine ⟨t, ?_, a, fun n => (c n).trans ⟨fun h => h.elim .inl fun ⟨x, y, z⟩ => .inr ⟨x, by omega, z⟩, fun h => h.elim .inl fun ⟨x, y, z⟩ => .inr ⟨x, by omega, z⟩⟩, by simpa using d, e1, ?_⟩
    · unfold tri foldO
      rw [e]
      rfl
    · rw [e2, List.filter_cons]
      by_cases h : f b = true <;> simp [h]
  | e :: bs, b, s, hp, hm, hc, hs, h1, hl => by
    simp only [List.length_cons] at hl
    obtain ⟨q1, q2⟩ := List.pairwise_cons.mp hp
    have hbe : b < e := q1 e List.mem_cons_self
    have em := hm e (List.mem_cons_of_mem _ List.mem_cons_self)
    obtain ⟨t, et, a, a1, c, l, s1, s2⟩ := made_1 f s b e hbe (fun n g1 g2 => hc n g1 (by omega) fun z => by
      rcases List.mem_cons.mp z with z | z
      · omega
      · rcases List.mem_cons.mp z with z | z
        · omega
        · have := (List.pairwise_cons.mp q2).1 n z
          omega) hs h1 (by omega)
    obtain ⟨u, eu, b1, b2, b3, b4, b5⟩ := made_fold most f bs e t q2 (fun c hc2 => hm c (List.mem_cons_of_mem _ hc2)) (fun n g1 g2 g3 => hc n (by omega) g2 fun z => by
      rcases List.mem_cons.mp z with z | z
      · omega
      · exact g3 z) a a1 (by omega)
    refine ⟨u, ?_, b1, fun n => ?_, by simp only [List.length_cons]; omega, ?_, ?_⟩
    · unfold tri foldO
      rw [et]
      exact eu
    · rw [b2, c]
      constructor
      · rintro ((x | ⟨x, y, z⟩) | ⟨x, y, z⟩)
        · exact .inl x
        · exact .inr ⟨x, by omega, z⟩
        · exact .inr ⟨by omega, y, z⟩
      · rintro (x | ⟨x, y, z⟩)
        · exact .inl (.inl x)
        · by_cases w : n < e
          · exact .inl (.inr ⟨x, w, z⟩)
          · exact .inr ⟨by omega, y, z⟩
    · rw [b4, s1]
      rw [show tsum most f (b :: e :: bs) = (if f b = true then e - b else 0) + tsum most f (e :: bs) from rfl]
      omega
    · rw [b5, s2, List.filter_cons (x := b)]
      by_cases h : f b = true
      · simp only [h, if_true]
        cases hd s <;> simp
      · simp only [h, if_false, Bool.false_eq_true]
        cases hd s <;> simp
/-- the stretches made of the truths at the begins -/
theorem made_ok (most : Int) (f : Int -> Bool) (bs : List Int) (hp : bs.Pairwise (· < ·)) (hl : bs.length ≤ 1000) (h0 : (0 : Int) ∈ bs) (hr : forall c, c ∈ bs -> 0 ≤ c ∧ c ≤ most) (hc : forall n, 0 < n -> n ≤ most -> n ∉ bs -> f n = f (n - 1)) :
    exists t, m_law_made most bs (bs.map f) = some ⟨t⟩ ∧ Nrm t ∧ (forall n, inn t n ↔ 0 ≤ n ∧ n ≤ most ∧ f n = true) ∧ t.length ≤ bs.length ∧ sz t = tsum most f bs ∧ hd t = (bs.filter f).head? := by
  cases bs with
  | nil => cases h0
  | cons b r =>
    have b0 : b = 0 := by
      have := hr b List.mem_cons_self
      rcases List.mem_cons.mp h0 with z | z
      · exact z.symm
      · have := (List.pairwise_cons.mp hp).1 0 z
        omega
    subst b0
    obtain ⟨t, e, a, c, d, d2, d3⟩ := made_fold most f r 0 [] hp (fun c h => (hr c h).2) hc Nrm.nil (fun _ h => nomatch h) (by simp only [List.length_cons, List.length_nil] at hl ⊢; omega)
    refine ⟨t, ?_, a, fun n => (c n).trans ⟨fun h => h.elim (fun h => (inn_nil h).elim) id, .inr⟩, by simpa using d, by rw [d2]; simp [sz], by rw [d3]; simp [hd]⟩
    unfold m_law_made
    simp only [List.length_cons] at hl
    simp only [o3, o2, o1, fCut, Option.bind_some, Option.map_some, fAdd, fCons, szOk, List.length_cons, List.length_nil, fCat]
    rw [if_pos (by decide)]
    simp only [Option.bind_some]
    rw [cutM_1, if_pos (by simp only [List.drop_succ_cons, List.drop_zero, List.length_append, List.length_cons, List.length_nil]; omega)]
    simp only [Option.bind_some, fZip3]
    rw [zip3_tri, e]
    rfl
theorem inb_flat {L : List (Int × Int)} {n : Int} (h : forall p, p ∈ L -> n ≠ p.1 ∧ n ≠ p.2 + 1) : inb L n = inb L (n - 1) := by
  unfold inb
  induction L with
  | nil => rfl
  | cons p L ih =>
    rw [List.any_cons, List.any_cons, ih fun q hq => h q (List.mem_cons_of_mem _ hq)]
    have := h p List.mem_cons_self
    congr 1
    rw [Bool.eq_iff_iff]
    simp only [Bool.and_eq_true, decide_eq_true_eq]
    omega
/-! cut -/
theorem drop_get {A : Type} {L r : List A} {h : Nat} {a : A} (e : L.drop h = a :: r) : ix L (h : Int) = some a ∧ L.drop (h + 1) = r ∧ h < L.length := by
  have hl : h < L.length := by
    rcases Nat.lt_or_ge h L.length with c | c
    · exact c
    · rw [List.drop_eq_nil_of_le c] at e; cases e
  have := List.drop_eq_getElem_cons hl
  rw [e] at this
  injection this with a1 a2
  refine ⟨?_, a2.symm, hl⟩
  have g := atI_nat (List.getElem?_eq_getElem hl)
  rw [← a1] at g
  exact g
theorem cut_step (one other : List (Int × Int)) (s : List (Int × Int)) (h t : Nat) (a b : Int × Int) (A B : List (Int × Int)) (ha : one.drop h = a :: A) (hb : other.drop t = b :: B) (hl : s.length ≤ 1000) :
    m_cut_l1 ⟨one⟩ ⟨other⟩ (s, (h : Int), (t : Int)) = some ((if imax a.1 b.1 ≤ imin a.2 b.2 then s ++ [(imax a.1 b.1, imin a.2 b.2)] else s), (if a.2 < b.2 then (h : Int) + 1 else h), (if a.2 < b.2 then (t : Int) else t + 1)) := by
  obtain ⟨i1, _, _⟩ := drop_get ha
  obtain ⟨i2, _, _⟩ := drop_get hb
  unfold m_cut_l1
  simp only [o2, o1, Option.bind_some, fIxT, i1, i2, fFst, fSnd, fMax, fMin, fLe, fLt, fPair, fApp]
  by_cases c : imax a.1 b.1 ≤ imin a.2 b.2
  · by_cases d : a.2 < b.2
    · simp only [c, d, decide_true, if_true]
      rw [if_pos (by omega)]
      rfl
    · simp only [c, d, decide_true, decide_false, if_true, if_false, Bool.false_eq_true]
      rw [if_pos (by omega)]
      rfl
  · by_cases d : a.2 < b.2
    · simp only [c, d, decide_true, decide_false, if_true, if_false, Bool.false_eq_true]
    · simp only [c, d, decide_true, decide_false, if_true, if_false, Bool.false_eq_true]
theorem cut_cond (one other : List (Int × Int)) (s : List (Int × Int)) (h t : Nat) : m_cut_c1 ⟨one⟩ ⟨other⟩ (s, (h : Int), (t : Int)) = some (decide (h < one.length) && decide (t < other.length)) := by
  unfold m_cut_c1
  simp only [oAnd, o2, o1, Option.bind_some, fLt, fLenT]
  by_cases c : h < one.length
  · by_cases d : t < other.length
    · simp [c, d]
    · simp [c, d]
  · simp [c]
theorem cut_run (one other : List (Int × Int)) : forall (n : Nat) (s : List (Int × Int)) (h t : Nat), (one.drop h).length + (other.drop t).length < n -> Nrm s -> Nrm (one.drop h) -> Nrm (other.drop t) ->
    (forall p, p ∈ s -> forall n, inn (one.drop h) n -> inn (other.drop t) n -> p.2 + 1 < n) -> s.length + n ≤ 1000 ->
    exists r x y, whileO (m_cut_c1 ⟨one⟩ ⟨other⟩) (m_cut_l1 ⟨one⟩ ⟨other⟩) n (s, (h : Int), (t : Int)) = some (r, x, y) ∧ Nrm r ∧ (forall n, inn r n ↔ inn s n ∨ (inn (one.drop h) n ∧ inn (other.drop t) n)) ∧ r.length ≤ s.length + n
  | 0, s, h, t, hn, _, _, _, _, _ => by omega
  | n + 1, s, h, t, hn, hs, hA, hB, hg, hl => by
    unfold whileO
    rw [cut_cond]
    cases eA : one.drop h with
    | nil =>
      have : ¬ h < one.length := fun c => by rw [List.drop_eq_getElem_cons c] at eA; cases eA
      refine ⟨s, (h : Int), (t : Int), by simp only [Option.bind_some, decide_eq_false this, Bool.false_and, Bool.false_eq_true, if_false], hs, fun n => ⟨.inl, fun a => a.elim id fun a => (inn_nil a.1).elim⟩, by omega⟩
    | cons a A =>
      cases eB : other.drop t with
      | nil =>
        have : ¬ t < other.length := fun c => by rw [List.drop_eq_getElem_cons c] at eB; cases eB
        refine ⟨s, (h : Int), (t : Int), by simp only [Option.bind_some, decide_eq_false this, Bool.and_false, Bool.false_eq_true, if_false], hs, fun n => ⟨.inl, fun a => a.elim id fun a => (inn_nil a.2).elim⟩, by omega⟩
      | cons b B =>
        obtain ⟨i1, d1, l1⟩ := drop_get eA
        obtain ⟨i2, d2, l2⟩ := drop_get eB
        rw [eA] at hA hg hn
        rw [eB] at hB hg hn
        simp only [List.length_cons] at hn
        have ha := hA.1 a List.mem_cons_self
        have hb := hB.1 b List.mem_cons_self
        have mx := @imax_le a.1 b.1
        have mn := @imin_le a.2 b.2
        simp only [Option.bind_some, l1, l2, decide_true, Bool.and_self, if_true]
        rw [cut_step one other s h t a b A B eA eB (by omega)]
        simp only [Option.bind_some]
        have main : exists s', (if imax a.1 b.1 ≤ imin a.2 b.2 then s ++ [(imax a.1 b.1, imin a.2 b.2)] else s) = s' ∧ Nrm s' ∧ s'.length ≤ s.length + 1 ∧ (forall n, inn s' n ↔ inn s n ∨ (imax a.1 b.1 ≤ n ∧ n ≤ imin a.2 b.2)) ∧ (forall p, p ∈ s' -> p ∈ s ∨ p.2 = imin a.2 b.2) := by
          refine ⟨_, rfl, ?_⟩
          by_cases c : imax a.1 b.1 ≤ imin a.2 b.2
          · rw [if_pos c]
            refine ⟨hs.snoc c fun q hq => hg q hq _ (inn_cons.mpr (.inl ⟨mx.1, by omega⟩)) (inn_cons.mpr (.inl ⟨mx.2.1, by omega⟩)), by simp, fun n => by rw [inn_app, inn_one], fun p hp => ?_⟩
            rcases List.mem_append.mp hp with hp | hp
            · exact .inl hp
            · rw [List.mem_singleton.mp hp]; exact .inr rfl
          · rw [if_neg c]
            exact ⟨hs, by omega, fun n => ⟨.inl, fun h => h.elim id fun h => by omega⟩, fun p hp => .inl hp⟩
        obtain ⟨s', es', n1, n2, n3, n4⟩ := main
        rw [es']
        by_cases d : a.2 < b.2
        · rw [if_pos d, if_pos d]
          obtain ⟨r, x, y, e, r1, r2, r3⟩ := cut_run one other n s' (h + 1) t (by rw [d1, eB]; simp only [List.length_cons]; omega) n1 (by rw [d1]; exact hA.tail) (by rw [eB]; exact hB) (fun p hp m q1 q2 => by
            rw [d1] at q1
            rw [eB] at q2
            rcases n4 p hp with hp | hp
            · exact hg p hp m (inn_cons.mpr (.inr q1)) q2
            · have := hA.behind q1
              omega) (by omega)
          refine ⟨r, x, y, by rw [← e]; rfl, r1, fun m => ?_, by omega⟩
          rw [r2, n3, d1, eB]
          constructor
          · rintro ((z | z) | z)
            · exact .inl z
            · exact .inr ⟨inn_cons.mpr (.inl (by omega)), inn_cons.mpr (.inl (by omega))⟩
            · exact .inr ⟨inn_cons.mpr (.inr z.1), z.2⟩
          · rintro (z | ⟨z, w⟩)
            · exact .inl (.inl z)
            · rcases inn_cons.mp z with z | z
              · rcases inn_cons.mp w with w | w
                · exact .inl (.inr (by omega))
                · have := hB.behind w
                  omega
              · exact .inr ⟨z, w⟩
        · rw [if_neg d, if_neg d]
          obtain ⟨r, x, y, e, r1, r2, r3⟩ := cut_run one other n s' h (t + 1) (by rw [d2, eA]; simp only [List.length_cons]; omega) n1 (by rw [eA]; exact hA) (by rw [d2]; exact hB.tail) (fun p hp m q1 q2 => by
            rw [eA] at q1
            rw [d2] at q2
            rcases n4 p hp with hp | hp
            · exact hg p hp m q1 (inn_cons.mpr (.inr q2))
            · have := hB.behind q2
              omega) (by omega)
          refine ⟨r, x, y, by rw [← e]; rfl, r1, fun m => ?_, by omega⟩
          rw [r2, n3, d2, eA]
          constructor
          · rintro ((z | z) | z)
            · exact .inl z
            · exact .inr ⟨inn_cons.mpr (.inl (by omega)), inn_cons.mpr (.inl (by omega))⟩
            · exact .inr ⟨z.1, inn_cons.mpr (.inr z.2)⟩
          · rintro (z | ⟨z, w⟩)
            · exact .inl (.inl z)
            · rcases inn_cons.mp w with w | w
              · rcases inn_cons.mp z with z | z
                · exact .inl (.inr (by omega))
                · have := hA.behind z
                  omega
              · exact .inr ⟨z, w⟩
theorem cut_ok {xs ys : List (Int × Int)} (h1 : Nrm xs) (h2 : Nrm ys) (hl : xs.length + ys.length ≤ 900) : exists t, m_cut ⟨xs⟩ ⟨ys⟩ = some ⟨t⟩ ∧ Nrm t ∧ (forall n, inn t n ↔ inn xs n ∧ inn ys n) ∧ t.length ≤ xs.length + ys.length + 1 := by
  obtain ⟨r, x, y, e, a, b, c⟩ := cut_run xs ys (xs.length + ys.length + 1) [] 0 0 (by simp) Nrm.nil h1 h2 (fun _ h => nomatch h) (by simp only [List.length_nil]; omega)
  refine ⟨r, ?_, a, fun n => (b n).trans ⟨fun h => h.elim (fun h => (inn_nil h).elim) id, .inr⟩, by simpa using c⟩
  unfold m_cut
  simp only [Option.bind_some]
  rw [show (([] : List (Int × Int)), (0 : Int), (0 : Int)) = ([], ((0 : Nat) : Int), ((0 : Nat) : Int)) from rfl, e]
  rfl
/-! turned -/
theorem turned_step (s : List (Int × Int)) (free : Int) (p : Int × Int) (hl : s.length ≤ 1000) : m_turned_l1 (s, free) p = some ((if free < p.1 then s ++ [(free, p.1 - 1)] else s), p.2 + 1) := by
  unfold m_turned_l1
  simp only [o2, Option.bind_some, fLt, fPair, fSub, fAdd, fApp]
  by_cases c : free < p.1
  · simp only [c, decide_true, if_true]
    rw [if_pos (by omega)]
    rfl
  · simp only [c, decide_false, if_false, Bool.false_eq_true]
theorem turned_fold (most : Int) : forall (A s : List (Int × Int)) (free : Int), Nrm A -> (forall p, p ∈ A -> free ≤ p.1 ∧ p.2 ≤ most) -> Nrm s -> (forall p, p ∈ s -> p.2 + 1 < free) -> free ≤ most + 1 -> s.length + A.length ≤ 1000 ->
    exists t f', foldO m_turned_l1 (s, free) A = some (t, f') ∧ Nrm t ∧ (forall p, p ∈ t -> p.2 + 1 < f') ∧ free ≤ f' ∧ f' ≤ most + 1 ∧ (forall n, inn A n -> n < f') ∧ (forall n, inn t n ↔ inn s n ∨ (free ≤ n ∧ n < f' ∧ ¬ inn A n)) ∧ t.length ≤ s.length + A.length
  | [], s, free, _, _, hs, hf, hm, _ => ⟨s, free, rfl, hs, hf, Int.le_refl _, hm, fun n h => (inn_nil h).elim, fun n => ⟨.inl, fun h => h.elim id fun h => by omega⟩, by simp⟩
  | p :: A, s, free, hA, hp, hs, hf, hm, hl => by
    simp only [List.length_cons] at hl
    obtain ⟨p1, p2⟩ := hp p List.mem_cons_self
    have pp := hA.1 p List.mem_cons_self
    have main : exists s', (if free < p.1 then s ++ [(free, p.1 - 1)] else s) = s' ∧ Nrm s' ∧ s'.length ≤ s.length + 1 ∧ (forall q, q ∈ s' -> q.2 + 1 < p.2 + 1) ∧ (forall n, inn s' n ↔ inn s n ∨ (free ≤ n ∧ n < p.1)) := by
      refine ⟨_, rfl, ?_⟩
      by_cases c : free < p.1
      · rw [if_pos c]
        refine ⟨hs.snoc (by simp only; omega) hf, by simp, fun q hq => ?_, fun n => by
          rw [inn_app, inn_one]
          simp only
          exact ⟨fun h => h.elim .inl fun h => .inr (by omega), fun h => h.elim .inl fun h => .inr (by omega)⟩⟩
        rcases List.mem_append.mp hq with hq | hq
        · have := hf q hq; omega
        · rw [List.mem_singleton.mp hq]; simp only; omega
      · rw [if_neg c]
        exact ⟨hs, by omega, fun q hq => by have := hf q hq; omega, fun n => ⟨.inl, fun h => h.elim id fun h => by omega⟩⟩
    obtain ⟨s', es, n1, n2, n3, n4⟩ := main
    obtain ⟨t, f', e, a1, a2, a3, a4, a5, a6, a7⟩ := turned_fold most A s' (p.2 + 1) hA.tail (fun q hq => by
      have := (List.pairwise_cons.mp hA.2).1 q hq
      exact ⟨by omega, (hp q (List.mem_cons_of_mem _ hq)).2⟩) n1 n3 (by omega) (by omega)
    refine ⟨t, f', ?_, a1, a2, by omega, a4, fun n h => ?_, fun n => ?_, by simp only [List.length_cons]; omega⟩
    · unfold foldO
      rw [turned_step s free p (by omega), es]
      exact e
    · rcases inn_cons.mp h with h | h
      · omega
      · exact a5 n h
    · rw [a6, n4, inn_cons]
      constructor
      · rintro ((z | z) | ⟨z, y, w⟩)
        · exact .inl z
        · refine .inr ⟨z.1, by omega, fun h => ?_⟩
          rcases h with h | h
          · omega
          · have := hA.behind h; omega
        · refine .inr ⟨by omega, y, fun h => ?_⟩
          rcases h with h | h
          · omega
          · exact w h
      · rintro (z | ⟨z, y, w⟩)
        · exact .inl (.inl z)
        · by_cases c : n < p.1
          · exact .inl (.inr ⟨z, c⟩)
          · refine .inr ⟨?_, y, fun h => w (.inr h)⟩
            by_cases d : n ≤ p.2
            · exact (w (.inl ⟨by omega, d⟩)).elim
            · omega
theorem turned_ok {most : Int} {xs : List (Int × Int)} (hm : -1 ≤ most) (h : Nrm xs) (hw : Wd most xs) (hl : xs.length ≤ 900) : exists t, m_turned most ⟨xs⟩ = some ⟨t⟩ ∧ Nrm t ∧ (forall n, inn t n ↔ 0 ≤ n ∧ n ≤ most ∧ ¬ inn xs n) ∧ t.length ≤ xs.length + 1 := by
  obtain ⟨t, f, e, a1, a2, a3, a4, a5, a6, a7⟩ := turned_fold most xs [] 0 h (fun p hp => ⟨(hw p hp).1, (hw p hp).2.2⟩) Nrm.nil (fun _ h => nomatch h) (by omega) (by simp only [List.length_nil]; omega)
  simp only [List.length_nil] at a7
  unfold m_turned
  simp only [Option.bind_some, Option.map_some, e, o2, fLe]
  by_cases c : f ≤ most
  · simp only [c, decide_true, if_true, fPair, Option.bind_some, fApp]
    rw [if_pos (by omega)]
    simp only [Option.bind_some, o1, fTuple]
    refine ⟨_, rfl, a1.snoc c a2, fun n => ?_, by simp; omega⟩
    rw [inn_app, inn_one, a6]
    simp only
    constructor
    · rintro ((z | z) | z)
      · exact (inn_nil z).elim
      · exact ⟨z.1, by omega, z.2.2⟩
      · refine ⟨by omega, z.2, fun y => ?_⟩
        have := a5 n y; omega
    · rintro ⟨z, y, w⟩
      by_cases d : n < f
      · exact .inl (.inr ⟨z, d, w⟩)
      · exact .inr ⟨by omega, y⟩
  · simp only [c, decide_false, if_false, Bool.false_eq_true, o1, Option.bind_some, fTuple]
    refine ⟨t, rfl, a1, fun n => ?_, by omega⟩
    rw [a6]
    constructor
    · rintro (z | z)
      · exact (inn_nil z).elim
      · exact ⟨z.1, by omega, z.2.2⟩
    · rintro ⟨z, y, w⟩
      exact .inr ⟨z, by omega, w⟩
theorem last_le {L : List (Int × Int)} {l : Int × Int} (h : Nrm (L ++ [l])) {p : Int × Int} (hp : p ∈ L ++ [l]) : p.2 ≤ l.2 := by
  obtain ⟨a, b⟩ := h.last
  rcases List.mem_append.mp hp with hp | hp
  · have := b p hp; omega
  · rw [List.mem_singleton.mp hp]; omega
theorem less_ok {most : Int} {xs ys : List (Int × Int)} (h1 : Nrm xs) (h2 : Nrm ys) (w1 : Wd most xs) (w2 : Wd most ys) (hl : xs.length + ys.length ≤ 800) : exists t, m_less ⟨xs⟩ ⟨ys⟩ = some ⟨t⟩ ∧ Nrm t ∧ (forall n, inn t n ↔ inn xs n ∧ ¬ inn ys n) := by
  unfold m_less
  rcases snoc xs with rfl | ⟨x0, x, rfl⟩
  · refine ⟨[], rfl, Nrm.nil, fun n => ⟨fun h => (inn_nil h).elim, fun h => (inn_nil h.1).elim⟩⟩
  · rcases snoc ys with rfl | ⟨y0, y, rfl⟩
    · refine ⟨x0 ++ [x], ?_, h1, fun n => ⟨fun h => ⟨h, inn_nil⟩, fun h => h.1⟩⟩
      simp [oOr, oNot, o1, fTruT]
    · have t1 : fTruT (⟨x0 ++ [x]⟩ : Tl (Int × Int)) = some true := by unfold fTruT; simp
      have t2 : fTruT (⟨y0 ++ [y]⟩ : Tl (Int × Int)) = some true := by unfold fTruT; simp
      rw [fNeg_1]
      simp only [oOr, oNot, o1, o2, Option.bind_some, t1, t2, Bool.not_true, Bool.false_eq_true, if_false, fIxT, ix_last, fSnd, fMax]
      have mx := @imax_le x.2 y.2
      have wx := w1 x (by simp)
      obtain ⟨t, e, a, b, c⟩ := turned_ok (most := imax x.2 y.2) (by omega) h2 (fun p hp => ⟨(w2 p hp).1, (w2 p hp).2.1, by have := last_le h2 hp; omega⟩) (by omega)
      rw [e]
      obtain ⟨u, e2, a2, b2, _⟩ := cut_ok (ys := t) h1 a (by omega)
      refine ⟨u, e2, a2, fun n => ?_⟩
      rw [b2, b]
      constructor
      · exact fun h => ⟨h.1, h.2.2.2⟩
      · rintro ⟨⟨p, hp, q, r⟩, w⟩
        have := last_le h1 hp
        have := w1 p hp
        exact ⟨⟨p, hp, q, r⟩, by omega, by omega, w⟩
/-! the borders of all sets -/
def bd : List (Int × Int) -> List Int
  | [] => []
  | p :: L => p.1 :: (p.2 + 1) :: bd L
def bds : List (Tl (Int × Int)) -> List Int
  | [] => []
  | S :: L => bd S.l ++ bds L
theorem bd_mem {c : Int} : forall {L : List (Int × Int)}, c ∈ bd L ↔ exists p, p ∈ L ∧ (c = p.1 ∨ c = p.2 + 1)
  | [] => ⟨fun h => (nomatch h), fun ⟨p, h, _⟩ => (nomatch h)⟩
  | p :: L => by
    unfold bd
    rw [List.mem_cons, List.mem_cons, bd_mem (L := L)]
    constructor
    · rintro (h | h | ⟨q, h, z⟩)
      · exact ⟨p, List.mem_cons_self, .inl h⟩
      · exact ⟨p, List.mem_cons_self, .inr h⟩
      · exact ⟨q, List.mem_cons_of_mem _ h, z⟩
    · rintro ⟨q, h, z⟩
      rcases List.mem_cons.mp h with rfl | h
      · exact z.elim .inl fun z => .inr (.inl z)
      · exact .inr (.inr ⟨q, h, z⟩)
theorem bds_mem {c : Int} : forall {L : List (Tl (Int × Int))}, c ∈ bds L ↔ exists S, S ∈ L ∧ c ∈ bd S.l
  | [] => ⟨fun h => (nomatch h), fun ⟨p, h, _⟩ => (nomatch h)⟩
  | S :: L => by
    unfold bds
    rw [List.mem_append, bds_mem (L := L)]
    constructor
    · rintro (h | ⟨q, h, z⟩)
      · exact ⟨S, List.mem_cons_self, h⟩
      · exact ⟨q, List.mem_cons_of_mem _ h, z⟩
    · rintro ⟨q, h, z⟩
      rcases List.mem_cons.mp h with rfl | h
      · exact .inl z
      · exact .inr ⟨q, h, z⟩
theorem bd_len : forall L : List (Int × Int), (bd L).length = 2 * L.length
  | [] => rfl
  | p :: L => by
    unfold bd
    simp only [List.length_cons, bd_len L]
    omega
def tot {A : Type} : List (List A) -> Nat
  | [] => 0
  | x :: r => x.length + tot r
theorem bds_len : forall L : List (Tl (Int × Int)), (bds L).length = 2 * tot (L.map Tl.l)
  | [] => rfl
  | S :: L => by
    unfold bds
    simp only [List.length_append, bd_len, bds_len L, List.map_cons, tot]
    omega
theorem parts2 : forall (L : List (Int × Int)) (s : List Int), s.length + 2 * L.length ≤ 90000 -> foldO m_parts_l2 s L = some (s ++ bd L)
  | [], s, _ => by unfold bd; rw [List.append_nil]; rfl
  | p :: L, s, h => by
    simp only [List.length_cons] at h
    have e : m_parts_l2 s p = some (s ++ [p.1] ++ [p.2 + 1]) := by
      unfold m_parts_l2
      simp only [o2, Option.bind_some, fApp, fAdd]
      rw [if_pos (by omega)]
      simp only [Option.bind_some]
      rw [if_pos (by simp only [List.length_append, List.length_cons, List.length_nil]; omega)]
      rfl
    unfold foldO
    rw [e, Option.bind_some]
    rw [parts2 L _ (by simp only [List.length_append, List.length_cons, List.length_nil]; omega)]
    rw [show bd (p :: L) = p.1 :: (p.2 + 1) :: bd L from rfl]
    simp
theorem parts1 : forall (L : List (Tl (Int × Int))) (s : List Int), s.length + 2 * tot (L.map Tl.l) ≤ 90000 -> foldO m_parts_l1 s L = some (s ++ bds L)
  | [], s, _ => by unfold bds; rw [List.append_nil]; rfl
  | S :: L, s, h => by
    simp only [List.map_cons, tot] at h
    have e : m_parts_l1 s S = some (s ++ bd S.l) := by
      unfold m_parts_l1
      simp only [Option.bind_some, Option.map_some]
      rw [parts2 S.l s (by omega)]
      rfl
    unfold foldO
    rw [e, Option.bind_some]
    rw [parts1 L _ (by simp only [List.length_append, bd_len]; omega)]
    rw [show bds (S :: L) = bd S.l ++ bds L from rfl, List.append_assoc]
def nx : List Int -> List (Int × Int)
  | a :: b :: r => (a, b - 1) :: nx (b :: r)
  | _ => []
theorem nx_zip : forall r : List Int, (r.zip (r.drop 1)).map (fun y => (y.1, y.2 - 1)) = nx r
  | [] => rfl
  | [a] => rfl
  | a :: b :: r => by
    have := nx_zip (b :: r)
    unfold nx
    rw [← this]
    rfl
theorem nx_len : forall r : List Int, (nx r).length ≤ r.length
  | [] => Nat.le_refl _
  | [a] => Nat.zero_le _
  | a :: b :: r => by
    have := nx_len (b :: r)
    unfold nx
    simp only [List.length_cons] at this ⊢
    omega
theorem nx_mem {p : Int × Int} : forall {r : List Int}, r.Pairwise (· < ·) -> p ∈ nx r -> p.1 ≤ p.2 ∧ forall c, c ∈ r -> ¬ (p.1 < c ∧ c ≤ p.2)
  | [], _, h => nomatch h
  | [a], _, h => nomatch h
  | a :: b :: r, hp, h => by
    obtain ⟨h1, h2⟩ := List.pairwise_cons.mp hp
    obtain ⟨h3, h4⟩ := List.pairwise_cons.mp h2
    have ab := h1 b List.mem_cons_self
    unfold nx at h
    rcases List.mem_cons.mp h with rfl | h
    · refine ⟨by simp only; omega, fun c hc z => ?_⟩
      simp only at z
      rcases List.mem_cons.mp hc with hc | hc
      · omega
      · rcases List.mem_cons.mp hc with hc | hc
        · omega
        · have := h3 c hc; omega
    · obtain ⟨i1, i2⟩ := nx_mem h2 h
      refine ⟨i1, fun c hc z => ?_⟩
      rcases List.mem_cons.mp hc with hc | hc
      · have hp1 : b ≤ p.1 := nx_low h2 h
        omega
      · exact i2 c hc z
where
  nx_low {p : Int × Int} : forall {b : Int} {r : List Int}, (b :: r).Pairwise (· < ·) -> p ∈ nx (b :: r) -> b ≤ p.1
  | _, [], _, h => nomatch h
  | b, d :: r, hp, h => by
    obtain ⟨h1, h2⟩ := List.pairwise_cons.mp hp
    unfold nx at h
    rcases List.mem_cons.mp h with rfl | h
    · exact Int.le_refl _
    · have := nx_low h2 h
      have := h1 d List.mem_cons_self
      omega
theorem nx_two {p q : Int × Int} : forall {r : List Int}, r.Pairwise (· < ·) -> (p, q) ∈ (nx r).zip ((nx r).drop 1) -> p.2 + 1 = q.1 ∧ q.1 ∈ r ∧ (exists a, a ∈ r ∧ a < q.1) ∧ exists c, c ∈ r ∧ q.1 < c
  | [], _, h => nomatch h
  | [a], _, h => nomatch h
  | [a, b], _, h => nomatch h
  | a :: b :: c :: r, hp, h => by
    obtain ⟨h1, h2⟩ := List.pairwise_cons.mp hp
    have bc := (List.pairwise_cons.mp h2).1 c List.mem_cons_self
    have e : (nx (a :: b :: c :: r)).zip ((nx (a :: b :: c :: r)).drop 1) = ((a, b - 1), (b, c - 1)) :: (nx (b :: c :: r)).zip ((nx (b :: c :: r)).drop 1) := rfl
    rw [e] at h
    rcases List.mem_cons.mp h with z | h
    · injection z with z1 z2
      subst z1 z2
      exact ⟨by simp only; omega, by simp, ⟨a, by simp, h1 b List.mem_cons_self⟩, c, by simp, bc⟩
    · obtain ⟨i1, i2, ⟨x, i3, i4⟩, y, i5, i6⟩ := nx_two h2 h
      exact ⟨i1, List.mem_cons_of_mem _ i2, ⟨x, List.mem_cons_of_mem _ i3, i4⟩, y, List.mem_cons_of_mem _ i5, i6⟩
theorem nx_last : forall (r : List Int) (a b : Int), exists c, nx (r ++ [a, b]) = nx (r ++ [a]) ++ [(c, b - 1)] ∧ c = a
  | [], a, b => ⟨a, rfl, rfl⟩
  | [x], a, b => ⟨a, rfl, rfl⟩
  | x :: y :: r, a, b => by
    obtain ⟨c, e, z⟩ := nx_last (y :: r) a b
    refine ⟨c, ?_, z⟩
    show (x, y - 1) :: nx ((y :: r) ++ [a, b]) = (x, y - 1) :: (nx ((y :: r) ++ [a]) ++ [(c, b - 1)])
    rw [e]
theorem any_all {I : Type} {f : I -> Option Bool} {g : I -> Bool} {xs : List I} (hl : xs.length ≤ 90000) (h : forall x, x ∈ xs -> f x = some (g x)) : oComp (fun _ => some true) f (some xs) = some (xs.map g) := by
  unfold oComp lim
  rw [Option.bind_some, if_pos (by omega), Option.bind_some]
  exact comp_all (fun _ _ => rfl) h
theorem loop_unit {I : Type} {f : Unit -> I -> Option (Unit ⊕ Bool)} : forall {xs : List I}, (forall x, x ∈ xs -> f () x = some (.inl ())) -> loopM f () xs = some (.inl ())
  | [], _ => rfl
  | x :: xs, h => by
    unfold loopM
    rw [h x List.mem_cons_self]
    exact loop_unit fun y hy => h y (List.mem_cons_of_mem _ hy)
theorem cuts_ok (rows : List Int) (hl : rows.length ≤ 1000) : (oComp (fun (y : (Int × Int)) => (some true)) (fun (y : (Int × Int)) => (o2 fPair (some y.1) (o2 fSub (some y.2) (some (1 : Int))))) (o2 fZip (some rows) (o3 fCut (some rows) (((some (1 : Int))).map some) (some none)))) = some (nx rows) := by
  have e : (o2 fZip (some rows) (o3 fCut (some rows) (((some (1 : Int))).map some) (some none))) = some (rows.zip (rows.drop 1)) := by
    simp only [o2, o3, Option.bind_some, Option.map_some, fCut, fZip, cutM_1]
  have hz : (nx rows).length = (rows.zip (rows.drop 1)).length := by rw [← nx_zip, List.length_map]
  have := nx_len rows
  rw [e]
  unfold oComp lim
  rw [Option.bind_some, if_pos (by omega), Option.bind_some, comp_all (f := fun y : Int × Int => o2 fPair (some y.1) (o2 fSub (some y.2) (some (1 : Int)))) (g := fun y : Int × Int => (y.1, y.2 - 1)) (fun _ _ => rfl) (fun y _ => rfl), nx_zip]
def rws (most : Int) (L : List (Tl (Int × Int))) : List Int := sset ([0, most + 1] ++ bds L)
theorem parts_ok (most : Int) (L : List (Tl (Int × Int))) (h : tot (L.map Tl.l) ≤ 400) : m_parts most L = some (nx (rws most L)) := by
  have hl : ([0, most + 1] ++ bds L).length ≤ 1000 := by
    rw [List.length_append, bds_len]
    simp only [List.length_cons, List.length_nil]
    omega
  obtain ⟨_, _, h3⟩ := sset_ok ([0, most + 1] ++ bds L)
  unfold m_parts
  have e1 : (o1 szOk (o2 fCons (some (0 : Int)) (o2 fCons (o2 fAdd (some most) (some (1 : Int))) (some ([] : List Int))))) = some [0, most + 1] := rfl
  rw [e1, Option.bind_some, Option.bind_some, parts1 L _ (by simp only [List.length_cons, List.length_nil]; omega), Option.bind_some]
  have e2 : o1 fSortSet (some ([0, most + 1] ++ bds L)) = some (rws most L) := if_pos hl
  rw [e2, Option.bind_some, cuts_ok _ (by unfold rws; omega)]
/-- what stands in one list that rises with gaps -/
theorem nrm_two {S : List (Int × Int)} (h : Nrm S) {p q : Int × Int} (hp : p ∈ S) (hq : q ∈ S) : p = q ∨ p.2 + 1 < q.1 ∨ q.2 + 1 < p.1 := by
  have := h.2
  induction S with
  | nil => cases hp
  | cons a S ih =>
    obtain ⟨h1, h2⟩ := List.pairwise_cons.mp this
    rcases List.mem_cons.mp hp with rfl | hp
    · rcases List.mem_cons.mp hq with rfl | hq
      · exact .inl rfl
      · exact .inr (.inl (h1 q hq))
    · rcases List.mem_cons.mp hq with rfl | hq
      · exact .inr (.inr (h1 p (by assumption)))
      · exact ih h.tail hp hq h2
theorem turn_at {S : List (Int × Int)} (h : Nrm S) {e : Int} (he : e ∈ bd S) : inb S (e - 1) ≠ inb S e := by
  obtain ⟨p, hp, z⟩ := bd_mem.mp he
  have pp := h.1 p hp
  intro c
  rcases z with z | z
  · have a : inb S e = true := inb_iff.mpr ⟨p, hp, by omega, by omega⟩
    rw [a] at c
    obtain ⟨q, hq, x, y⟩ := inb_iff.mp c
    have qq := h.1 q hq
    rcases nrm_two h hp hq with rfl | w | w <;> omega
  · have a : inb S (e - 1) = true := inb_iff.mpr ⟨p, hp, by omega, by omega⟩
    rw [a] at c
    obtain ⟨q, hq, x, y⟩ := inb_iff.mp c.symm
    have qq := h.1 q hq
    rcases nrm_two h hp hq with rfl | w | w <;> omega
end Law

set_option Elab.async false
set_option linter.all false
set_option maxRecDepth 100000
namespace Law
open PySem PySem.Spec PyProof.Rows L2 Pu
open Pu.Rp (rp)
/-- a truth of numbers that turns at the begins alone -/
def Fl (most : Int) (B : List Int) (f : Int -> Bool) : Prop := forall n, 0 < n -> n ≤ most -> n ∉ B -> f n = f (n - 1)
structure Bg (most : Int) (B : List Int) : Prop where
  pw : B.Pairwise (· < ·)
  len : B.length ≤ 64
  z : (0 : Int) ∈ B
  rg : forall c, c ∈ B -> 0 ≤ c ∧ c ≤ most
theorem Fl.to {most : Int} {B : List Int} {f : Int -> Bool} (hf : Fl most B f) {l m : Int} (h0 : 0 ≤ l) (h1 : l ≤ m) (h2 : m ≤ most) (h : forall c, c ∈ B -> l < c -> c ≤ m -> False) : f m = f l := by
  have key : forall k : Nat, l + k ≤ m -> f (l + k) = f l := by
    intro k
    induction k with
    | zero => intro _; simp
    | succ k ih =>
      intro hk
      rw [← ih (by omega), hf (l + ((k + 1 : Nat) : Int)) (by omega) (by omega) fun z => h _ z (by omega) (by omega)]
      congr 1
      omega
  have := key (m - l).toNat (by omega)
  rwa [show l + ((m - l).toNat : Int) = m by omega] at this
def mk (most : Int) (B : List Int) (f : Int -> Bool) : Tl (Int × Int) := (m_law_made most B (B.map f)).getD ⟨[]⟩
section
variable {most : Int} {B : List Int} {f g : Int -> Bool}
theorem mk_ok (h : Bg most B) (hf : Fl most B f) : m_law_made most B (B.map f) = some (mk most B f) ∧ Nrm (mk most B f).l ∧ (forall n, inn (mk most B f).l n ↔ 0 ≤ n ∧ n ≤ most ∧ f n = true) ∧ (mk most B f).l.length ≤ B.length ∧ sz (mk most B f).l = tsum most f B ∧ hd (mk most B f).l = (B.filter f).head? := by
  obtain ⟨t, e, a, b, c, d1, d2⟩ := made_ok most f B h.pw (by have := h.len; omega) h.z h.rg hf
  unfold mk
  rw [e]
  exact ⟨rfl, a, b, c, d1, d2⟩
theorem mk_wd (h : Bg most B) (hf : Fl most B f) : Wd most (mk most B f).l := fun p hp => by
  obtain ⟨_, a, b, _⟩ := mk_ok h hf
  have q := a.1 p hp
  have x := (b p.1).mp ⟨p, hp, Int.le_refl _, q⟩
  have y := (b p.2).mp ⟨p, hp, q, Int.le_refl _⟩
  exact ⟨x.1, q, y.2.1⟩
theorem mk_len (h : Bg most B) (hf : Fl most B f) : (mk most B f).l.length ≤ 64 := Nat.le_trans (mk_ok h hf).2.2.2.1 h.len
theorem mk_eq (h : Bg most B) (hf : Fl most B f) {t : List (Int × Int)} (nt : Nrm t) (it : forall n, inn t n ↔ 0 ≤ n ∧ n ≤ most ∧ f n = true) : (⟨t⟩ : Tl (Int × Int)) = mk most B f := by
  obtain ⟨_, a, b, _⟩ := mk_ok h hf
  have e : t = (mk most B f).l := nm_uniq nt a fun n => (it n).trans (b n).symm
  rw [e]
theorem mk_inb (h : Bg most B) (hf : Fl most B f) {n : Int} (h0 : 0 ≤ n) (h1 : n ≤ most) : inb (mk most B f).l n = f n := by
  rw [Bool.eq_iff_iff, inb_iff, (mk_ok h hf).2.2.1]
  exact ⟨fun z => z.2.2, fun z => ⟨h0, h1, z⟩⟩
theorem Fl.op (hf : Fl most B f) (hg : Fl most B g) (op : Bool -> Bool -> Bool) : Fl most B (fun n => op (f n) (g n)) := fun n a b c => by
  show op (f n) (g n) = op (f (n - 1)) (g (n - 1))
  rw [hf n a b c, hg n a b c]
theorem joined_mk (h : Bg most B) (hf : Fl most B f) (hg : Fl most B g) : m_joined (mk most B f) (mk most B g) = some (mk most B fun n => f n || g n) := by
  obtain ⟨_, a, b, _⟩ := mk_ok h hf
  obtain ⟨_, a2, b2, _⟩ := mk_ok h hg
  have l1 := mk_len h hf
  have l2 := mk_len h hg
  obtain ⟨t, e, n, i, _⟩ := joined_ok (xs := (mk most B f).l) (ys := (mk most B g).l) a.1 a2.1 (by omega)
  rw [show m_joined (mk most B f) (mk most B g) = some ⟨t⟩ from e]
  rw [mk_eq h (hf.op hg fun x y => x || y) n fun m => by
    rw [i, b, b2, Bool.or_eq_true]
    constructor
    · rintro (⟨x, y, z⟩ | ⟨x, y, z⟩)
      · exact ⟨x, y, .inl z⟩
      · exact ⟨x, y, .inr z⟩
    · rintro ⟨x, y, z | z⟩
      · exact .inl ⟨x, y, z⟩
      · exact .inr ⟨x, y, z⟩]
theorem cut_mk (h : Bg most B) (hf : Fl most B f) (hg : Fl most B g) : m_cut (mk most B f) (mk most B g) = some (mk most B fun n => f n && g n) := by
  obtain ⟨_, a, b, _⟩ := mk_ok h hf
  obtain ⟨_, a2, b2, _⟩ := mk_ok h hg
  have l1 := mk_len h hf
  have l2 := mk_len h hg
  obtain ⟨t, e, n, i, _⟩ := cut_ok a a2 (by omega)
  rw [show m_cut (mk most B f) (mk most B g) = some ⟨t⟩ from e]
  rw [mk_eq h (hf.op hg fun x y => x && y) n fun m => by
    rw [i, b, b2, Bool.and_eq_true]
    exact ⟨fun ⟨⟨x, y, z⟩, _, _, w⟩ => ⟨x, y, z, w⟩, fun ⟨x, y, z, w⟩ => ⟨⟨x, y, z⟩, x, y, w⟩⟩]
theorem less_mk (h : Bg most B) (hf : Fl most B f) (hg : Fl most B g) : m_less (mk most B f) (mk most B g) = some (mk most B fun n => f n && !g n) := by
  obtain ⟨_, a, b, _⟩ := mk_ok h hf
  obtain ⟨_, a2, b2, _⟩ := mk_ok h hg
  have l1 := mk_len h hf
  have l2 := mk_len h hg
  obtain ⟨t, e, n, i⟩ := less_ok a a2 (mk_wd h hf) (mk_wd h hg) (by omega)
  rw [show m_less (mk most B f) (mk most B g) = some ⟨t⟩ from e]
  rw [mk_eq h (hf.op hg fun x y => x && !y) n fun m => by
    rw [i, b, b2, Bool.and_eq_true, Bool.not_eq_true', ← Bool.not_eq_true]
    exact ⟨fun ⟨⟨x, y, z⟩, w⟩ => ⟨x, y, z, fun v => w ⟨x, y, v⟩⟩, fun ⟨x, y, z, w⟩ => ⟨⟨x, y, z⟩, fun v => w v.2.2⟩⟩]
theorem turned_mk (hm : 0 ≤ most) (h : Bg most B) (hf : Fl most B f) : m_turned most (mk most B f) = some (mk most B fun n => !f n) := by
  obtain ⟨_, a, b, _⟩ := mk_ok h hf
  have l1 := mk_len h hf
  obtain ⟨t, e, n, i, _⟩ := turned_ok (most := most) (by omega) a (mk_wd h hf) (by omega)
  rw [show m_turned most (mk most B f) = some ⟨t⟩ from e]
  rw [mk_eq h (hf.op hf fun x _ => !x) n fun m => by
    rw [i, b, Bool.not_eq_true', ← Bool.not_eq_true]
    exact ⟨fun ⟨x, y, z⟩ => ⟨x, y, fun w => z ⟨x, y, w⟩⟩, fun ⟨x, y, z⟩ => ⟨x, y, fun w => z w.2.2⟩⟩]
theorem setof_mk {lo hi : Int} (h : Bg most B) (hf : Fl most B f) (hl : 0 ≤ lo ∧ lo ≤ hi ∧ hi ≤ most) (hg : Fl most B g) (eg : forall n, 0 ≤ n -> n ≤ most -> (g n = true ↔ f n = true ∨ (lo ≤ n ∧ n ≤ hi))) : m_set_of most ((mk most B f).l ++ [(lo, hi)]) = some (mk most B g) := by
  obtain ⟨_, a, b, _⟩ := mk_ok h hf
  have l1 := mk_len h hf
  obtain ⟨t, e, n, i, _⟩ := set_ok (most := most) (xs := (mk most B f).l ++ [(lo, hi)]) (fun p hp => by
    rcases List.mem_append.mp hp with hp | hp
    · exact mk_wd h hf p hp
    · rw [List.mem_singleton.mp hp]; exact hl) (by rw [List.length_append]; simp only [List.length_cons, List.length_nil]; omega)
  rw [e]
  rw [mk_eq h hg n fun m => by
    rw [i, inn_app, inn_one, b]
    constructor
    · rintro (⟨x, y, z⟩ | ⟨x, y⟩)
      · exact ⟨x, y, (eg m x y).mpr (.inl z)⟩
      · exact ⟨by omega, by omega, (eg m (by omega) (by omega)).mpr (.inr ⟨x, y⟩)⟩
    · rintro ⟨x, y, z⟩
      rcases (eg m x y).mp z with w | w
      · exact .inl ⟨x, y, w⟩
      · exact .inr w]
theorem Fl.const (b : Bool) : Fl most B (fun _ => b) := fun _ _ _ _ => rfl
theorem whole_mk (hm : 0 ≤ most) (h : Bg most B) : (⟨[(0, most)]⟩ : Tl (Int × Int)) = mk most B fun _ => true :=
  mk_eq h (Fl.const true) ⟨fun p hp => by rw [List.mem_singleton.mp hp]; exact hm, List.pairwise_singleton _ _⟩ fun n => by
    rw [inn_one]
    exact ⟨fun z => ⟨z.1, z.2, rfl⟩, fun z => ⟨z.1, z.2.1⟩⟩
theorem none_mk (h : Bg most B) : (⟨[]⟩ : Tl (Int × Int)) = mk most B fun _ => false :=
  mk_eq h (Fl.const false) Nrm.nil fun n => ⟨fun z => (inn_nil z).elim, fun z => by cases z.2.2⟩
end
/-! what is asked of a set -/
theorem comp_ff {I A : Type} {c : I -> Option Bool} {f : I -> Option A} {c' : I -> Bool} {g : I -> A} : forall {xs : List I}, (forall x, x ∈ xs -> c x = some (c' x)) -> (forall x, x ∈ xs -> f x = some (g x)) -> comp c f xs = some ((xs.filter c').map g)
  | [], _, _ => rfl
  | x :: xs, hc, h => by
    unfold comp
    rw [hc x List.mem_cons_self, Option.bind_some, comp_ff (fun y hy => hc y (List.mem_cons_of_mem _ hy)) fun y hy => h y (List.mem_cons_of_mem _ hy), h x List.mem_cons_self, List.filter_cons]
    cases c' x <;> rfl
theorem oComp_ff {I A : Type} {c : I -> Option Bool} {f : I -> Option A} {c' : I -> Bool} {g : I -> A} {xs : List I} (hl : xs.length ≤ 90000) (hc : forall x, x ∈ xs -> c x = some (c' x)) (h : forall x, x ∈ xs -> f x = some (g x)) : oComp c f (some xs) = some ((xs.filter c').map g) := by
  unfold oComp lim
  rw [Option.bind_some, if_pos (by omega), Option.bind_some]
  exact comp_ff hc h
theorem tri_sum (most : Int) (f : Int -> Bool) : forall bs : List Int, (((tri most f bs).filter (·.c)).map fun y => y.b - y.a).sum = tsum most f bs
  | [] => rfl
  | [b] => by
    unfold tri tsum
    rw [List.filter_cons]
    by_cases h : f b = true <;> simp [h]
  | b :: e :: r => by
    have := tri_sum most f (e :: r)
    unfold tsum
    rw [← this]
    rw [show tri most f (b :: e :: r) = ⟨b, e, f b⟩ :: tri most f (e :: r) from rfl, List.filter_cons]
    by_cases h : f b = true <;> simp [h]
theorem tri_len (most : Int) (f : Int -> Bool) : forall bs : List Int, (tri most f bs).length = bs.length
  | [] => rfl
  | [b] => rfl
  | b :: e :: r => by
    rw [show tri most f (b :: e :: r) = ⟨b, e, f b⟩ :: tri most f (e :: r) from rfl, List.length_cons, tri_len most f (e :: r)]
    rfl
theorem size_ok (L : List (Int × Int)) (hl : L.length ≤ 1000) : m_size ⟨L⟩ = some (sz L) := by
  unfold m_size
  rw [Option.map_some, oComp_ff (c := fun _ : Int × Int => some true) (f := fun y : Int × Int => o2 fAdd (o2 fSub (some y.2) (some y.1)) (some (1 : Int))) (c' := fun _ => true) (g := fun p : Int × Int => p.2 - p.1 + 1) (by simp only; omega) (fun _ _ => rfl) (fun _ _ => rfl)]
  rw [show (⟨L⟩ : Tl (Int × Int)).l.filter (fun _ => true) = L by simp]
  rfl
theorem least_ok (L : List (Int × Int)) : m_least ⟨L⟩ = some (hd L) := by
  unfold m_least
  cases L with
  | nil => rfl
  | cons p r =>
    have e : ix (p :: r) 0 = some p := atI_nat (j := 0) rfl
    simp [oIf, o1, o2, fTruT, fIxT, e, fFst, hd]
theorem zip_filter (f : Int -> Bool) : forall B : List Int, ((B.zip (B.map f)).filter (·.2)).map (·.1) = B.filter f
  | [] => rfl
  | b :: B => by
    have := zip_filter f B
    rw [List.map_cons, List.zip_cons_cons, List.filter_cons, List.filter_cons, ← this]
    by_cases h : f b = true <;> simp [h]
theorem zip_below (f : Int -> Bool) (x : Int) : forall B : List Int, ((B.zip (B.map f)).filter (fun y => decide (y.1 ≤ x))).map (·.2) = (B.filter fun b => decide (b ≤ x)).map f
  | [] => rfl
  | b :: B => by
    have := zip_below f x B
    rw [List.map_cons, List.zip_cons_cons, List.filter_cons, List.filter_cons]
    by_cases h : b ≤ x
    · simp only [h, decide_true, if_true, List.map_cons, this]
    · simp only [h, decide_false, if_false, Bool.false_eq_true, this]
theorem foldl_min : forall (r : List Int) (n : Int), (forall x, x ∈ r -> n < x) -> r.foldl min n = n
  | [], _, _ => rfl
  | a :: r, n, h => by
    have := h a List.mem_cons_self
    rw [List.foldl_cons, show min n a = n by omega]
    exact foldl_min r n fun x hx => h x (List.mem_cons_of_mem _ hx)
theorem min_ok {l : List Int} (h : l.Pairwise (· < ·)) : fMinN l = some l.head? := by
  unfold fMinN
  cases l with
  | nil => rfl
  | cons n r => simp only [List.head?_cons, foldl_min r n fun x hx => (List.pairwise_cons.mp h).1 x hx]
theorem nrm_ix {L : List (Int × Int)} (h : Nrm L) {i j : Nat} {p q : Int × Int} (hi : L[i]? = some p) (hj : L[j]? = some q) (lt : i < j) : p.2 + 1 < q.1 := by
  obtain ⟨a, e1⟩ := List.getElem?_eq_some_iff.mp hi
  obtain ⟨b, e2⟩ := List.getElem?_eq_some_iff.mp hj
  have := List.pairwise_iff_getElem.mp h.2 i j a b lt
  rw [e1, e2] at this
  exact this
theorem has_run (L : List (Int × Int)) (h : Nrm L) (x : Int) : forall (n b e : Nat), e - b < n -> b ≤ e -> e ≤ L.length -> (forall i p, i < b -> L[i]? = some p -> p.2 < x) -> (forall i p, e ≤ i -> L[i]? = some p -> x ≤ p.2) ->
    exists k : Nat, whileO (m_has_c1 ⟨L⟩ x) (m_has_l1 ⟨L⟩ x) n ((b : Int), (e : Int)) = some ((k : Int), (k : Int)) ∧ k ≤ L.length ∧ (forall i p, i < k -> L[i]? = some p -> p.2 < x) ∧ (forall i p, k ≤ i -> L[i]? = some p -> x ≤ p.2)
  | 0, b, e, hn, _, _, _, _ => by omega
  | n + 1, b, e, hn, hbe, hel, h1, h2 => by
    unfold whileO
    rw [show m_has_c1 ⟨L⟩ x ((b : Int), (e : Int)) = some (decide ((b : Int) < (e : Int))) from rfl, Option.bind_some]
    by_cases c : (b : Int) < (e : Int)
    · rw [if_pos (decide_eq_true c)]
      have hm : ((b : Int) + (e : Int)) / 2 = (((b + e) / 2 : Nat) : Int) := by omega
      have ml : (b + e) / 2 < L.length := by omega
      have em := List.getElem?_eq_getElem ml
      have ex : ix L (((b + e) / 2 : Nat) : Int) = some L[(b + e) / 2] := atI_nat em
      have pm := h.1 _ (List.getElem_mem ml)
      have step : m_has_l1 ⟨L⟩ x ((b : Int), (e : Int)) = some (if L[(b + e) / 2].2 < x then ((((b + e) / 2 + 1 : Nat) : Int), (e : Int)) else ((b : Int), (((b + e) / 2 : Nat) : Int))) := by
        unfold m_has_l1
        simp only [o2, o1, Option.bind_some, fAdd, fDiv_1 (show (0 : Int) < 2 ∧ (2 : Int) < 1073741824 by decide), hm, fIxT, ex, fSnd, fLt]
        by_cases d : L[(b + e) / 2].2 < x
        · simp only [d, decide_true, if_true]
          rfl
        · simp only [d, decide_false, if_false, Bool.false_eq_true]
      rw [step, Option.bind_some]
      by_cases d : L[(b + e) / 2].2 < x
      · rw [if_pos d]
        refine has_run L h x n ((b + e) / 2 + 1) e (by omega) (by omega) hel (fun i p hi hp => ?_) h2
        rcases Nat.lt_or_ge i ((b + e) / 2) with g | g
        · have := nrm_ix h hp em g
          omega
        · have : i = (b + e) / 2 := by omega
          subst this
          rw [em] at hp
          cases hp
          exact d
      · rw [if_neg d]
        refine has_run L h x n b ((b + e) / 2) (by omega) (by omega) (by omega) h1 fun i p hi hp => ?_
        rcases Nat.lt_or_ge ((b + e) / 2) i with g | g
        · have := nrm_ix h em hp g
          have := h.1 p (List.mem_of_getElem? hp)
          omega
        · have : i = (b + e) / 2 := by omega
          subst this
          rw [em] at hp
          cases hp
          omega
    · rw [if_neg (by simpa using c)]
      have : b = e := by omega
      subst this
      exact ⟨b, rfl, hel, h1, h2⟩
theorem has_ok (L : List (Int × Int)) (h : Nrm L) (x : Int) : m_has ⟨L⟩ x = some (inb L x) := by
  obtain ⟨k, e, kl, k1, k2⟩ := has_run L h x (L.length + 1) 0 L.length (by omega) (by omega) (Nat.le_refl _) (fun i p hi => by omega) (fun i p hi hp => by
    have := (List.getElem?_eq_some_iff.mp hp).1
    omega)
  unfold m_has
  rw [Option.bind_some, show o1 fLenT (some (⟨L⟩ : Tl (Int × Int))) = some (L.length : Int) from rfl, Option.bind_some]
  rw [show ((0 : Int), (L.length : Int)) = (((0 : Nat) : Int), (L.length : Int)) from rfl, e, Option.bind_some]
  simp only [o2, Option.bind_some, fLt, oAnd, fIxT]
  by_cases c : (k : Int) < (L.length : Int)
  · have kk : k < L.length := by omega
    have em := List.getElem?_eq_getElem kk
    have ex : ix L (k : Int) = some L[k] := atI_nat em
    simp only [c, decide_true, if_true, ex, o1, Option.bind_some, fFst, fLe]
    congr 1
    rw [Bool.eq_iff_iff, decide_eq_true_eq, inb_iff]
    have q2 := k2 k _ (Nat.le_refl _) em
    constructor
    · exact fun z => ⟨_, List.getElem_mem kk, z, q2⟩
    · rintro ⟨p, hp, a, b⟩
      obtain ⟨i, hi⟩ := List.getElem?_of_mem hp
      rcases Nat.lt_trichotomy i k with g | g | g
      · have := k1 i p g hi; omega
      · subst g
        rw [em] at hi
        cases hi
        exact a
      · have := nrm_ix h em hi g; omega
  · simp only [c, decide_false, if_false, Bool.false_eq_true]
    congr 1
    rw [eq_comm, ← Bool.not_eq_true, inb_iff]
    rintro ⟨p, hp, a, b⟩
    obtain ⟨i, hi⟩ := List.getElem?_of_mem hp
    have il := (List.getElem?_eq_some_iff.mp hi).1
    have := k1 i p (by omega) hi
    omega
theorem fNeg_1' : o1 fNeg (some (1 : Int)) = some (-1) := rfl
theorem asked_ok {most : Int} {B : List Int} {f : Int -> Bool} (h : Bg most B) (hf : Fl most B f) {x : Int} (h0 : 0 ≤ x) (h1 : x ≤ most) : m_law_asked most (mk most B f) (B.map f) B x = some true := by
  obtain ⟨_, a, b, c, d1, d2⟩ := mk_ok h hf
  have hB := h.len
  unfold m_law_asked
  have e1 : (o2 fCat (o3 fCut (some B) (((some (1 : Int))).map some) (some none)) (o1 szOk (o2 fCons (o2 fAdd (some most) (some (1 : Int))) (some ([] : List Int))))) = some (B.drop 1 ++ [most + 1]) := by
    simp only [o3, o2, o1, fCut, Option.bind_some, Option.map_some, fAdd, fCons, szOk, List.length_cons, List.length_nil, fCat]
    rw [if_pos (by decide)]
    simp only [Option.bind_some]
    rw [cutM_1, if_pos (by simp only [List.length_append, List.length_drop, List.length_cons, List.length_nil]; omega)]
  rw [e1, Option.bind_some]
  have e2 : (o1 fSum (oComp (fun (y : (T3 Int Int Bool)) => (some y.c)) (fun (y : (T3 Int Int Bool)) => (o2 fSub (some y.b) (some y.a))) (o3 fZip3 (some B) (some (B.drop 1 ++ [most + 1])) (some (B.map f))))) = some (tsum most f B) := by
    have : o3 fZip3 (some B) (some (B.drop 1 ++ [most + 1])) (some (B.map f)) = some (tri most f B) := by
      simp only [o3, Option.bind_some, fZip3, zip3_tri]
    rw [this, oComp_ff (c := fun y : T3 Int Int Bool => some y.c) (f := fun y : T3 Int Int Bool => o2 fSub (some y.b) (some y.a)) (c' := fun y : T3 Int Int Bool => y.c) (g := fun y : T3 Int Int Bool => y.b - y.a) (by rw [tri_len]; omega) (fun _ _ => rfl) (fun _ _ => rfl)]
    simp only [o1, Option.bind_some, fSum, tri_sum]
  have e3 : o1 m_size (some (mk most B f)) = some (tsum most f B) := by
    rw [← d1]
    exact size_ok (mk most B f).l (by omega)
  rw [e2, e3, show o2 fNe (some (tsum most f B)) (some (tsum most f B)) = some false by simp [o2, fNe], Option.bind_some, if_neg (by decide)]
  have zl : (B.zip (B.map f)).length ≤ 90000 := by rw [List.length_zip, List.length_map]; omega
  have ez : o2 fZip (some B) (some (B.map f)) = some (B.zip (B.map f)) := rfl
  have e4 : (o1 fMinN (oComp (fun (y : (Int × Bool)) => (some y.2)) (fun (y : (Int × Bool)) => (some y.1)) (some (B.zip (B.map f))))) = some ((B.filter f).head?) := by
    rw [oComp_ff (c := fun y : Int × Bool => some y.2) (f := fun y : Int × Bool => some y.1) (c' := fun y : Int × Bool => y.2) (g := fun y : Int × Bool => y.1) zl (fun _ _ => rfl) (fun _ _ => rfl), zip_filter]
    exact min_ok (h.pw.sublist List.filter_sublist)
  have e5 : o1 m_least (some (mk most B f)) = some ((B.filter f).head?) := by
    rw [← d2]
    exact least_ok (mk most B f).l
  rw [ez, e4, e5, show o2 fNe (some ((B.filter f).head?)) (some ((B.filter f).head?)) = some false by simp [o2, fNe], Option.bind_some, if_neg (by decide)]
  have e6 : (oComp (fun (y : (Int × Bool)) => (o2 fLe (some y.1) (some x))) (fun (y : (Int × Bool)) => (some y.2)) (some (B.zip (B.map f)))) = some ((B.filter fun b => decide (b ≤ x)).map f) := by
    rw [oComp_ff (c := fun y : Int × Bool => o2 fLe (some y.1) (some x)) (f := fun y : Int × Bool => some y.2) (c' := fun y : Int × Bool => decide (y.1 ≤ x)) (g := fun y : Int × Bool => y.2) zl (fun _ _ => rfl) (fun _ _ => rfl), zip_below]
  have hz : (0 : Int) ∈ B.filter fun b => decide (b ≤ x) := List.mem_filter.mpr ⟨h.z, by simpa using h0⟩
  have hp : (B.filter fun b => decide (b ≤ x)).Pairwise (· < ·) := h.pw.sublist List.filter_sublist
  have hmem : forall c, c ∈ B -> c ≤ x -> c ∈ B.filter fun b => decide (b ≤ x) := fun c hc z => List.mem_filter.mpr ⟨hc, by simpa using z⟩
  have hin : forall c, (c ∈ B.filter fun b => decide (b ≤ x)) -> c ∈ B ∧ c ≤ x := fun c hc => by
    have := List.mem_filter.mp hc
    exact ⟨this.1, by simpa using this.2⟩
  rw [e6]
  generalize (B.filter fun b => decide (b ≤ x)) = W at hz hp hmem hin
  rcases snoc W with rfl | ⟨W', l, rfl⟩
  · cases hz
  · have hl := hin l (by simp)
    have fl : f x = f l := hf.to (h.rg l hl.1).1 hl.2 h1 fun c hc g1 g2 => by
      rcases List.mem_append.mp (hmem c hc g2) with z | z
      · have := (List.pairwise_append.mp hp).2.2 c z l (by simp)
        omega
      · rw [List.mem_singleton.mp z] at g1
        omega
    rw [fNeg_1', List.map_append, List.map_cons, List.map_nil, show o2 ix (some (W'.map f ++ [f l])) (some (-1)) = some (f l) from ix_last _ _, Option.bind_some]
    rw [show o2 m_has (some (mk most B f)) (some x) = some (f l) by
      rw [← fl, ← mk_inb h hf h0 h1]
      exact has_ok (mk most B f).l a x, Option.bind_some]
    simp [oAnd, o1, o2, fIs, fEq]
end Law

set_option Elab.async false
set_option linter.all false
set_option maxRecDepth 100000
namespace Law
open PySem PySem.Spec PyProof.Rows L2 Pu
open Pu.Rp (rp)
/-! the parts -/
theorem sorted_eq : forall {xs ys : List Int}, xs.Pairwise (· < ·) -> ys.Pairwise (· < ·) -> (forall c, c ∈ xs ↔ c ∈ ys) -> xs = ys := fun {xs ys} h1 h2 h => by
  have p : xs.Perm ys := (List.perm_ext_iff_of_nodup (h1.imp fun q => by omega) (h2.imp fun q => by omega)).mpr h
  exact pw_uniq p (h1.imp fun q => by omega) (h2.imp fun q => by omega)
theorem nx_lows : forall (r : List Int) (m : Int), (nx (r ++ [m])).map (·.1) = r
  | [], _ => rfl
  | [a], _ => rfl
  | a :: b :: r, m => by
    have := nx_lows (b :: r) m
    show a :: (nx ((b :: r) ++ [m])).map (·.1) = _
    rw [this]
theorem rng_mem {a b x : Int} : x ∈ rng a b ↔ a ≤ x ∧ x < b := by
  unfold rng
  rw [List.mem_map]
  constructor
  · rintro ⟨i, hi, rfl⟩
    have := List.mem_range.mp hi
    omega
  · rintro ⟨h1, h2⟩
    exact ⟨(x - a).toNat, List.mem_range.mpr (by omega), by omega⟩
theorem rng_lt (a b : Int) : (rng a b).Pairwise (· < ·) := by
  unfold rng
  rw [List.pairwise_map]
  exact List.pairwise_lt_range.imp fun h => by omega
def bj (B : List Int) (x : Int) : Int := (B[x.toNat]?).getD 0
theorem bj_ok {B : List Int} {x : Int} (h0 : 0 ≤ x) (h1 : x < B.length) : ix B x = some (bj B x) ∧ bj B x ∈ B ∧ B[x.toNat]? = some (bj B x) := by
  obtain ⟨v, e, m, g⟩ := ix_nat h0 h1
  unfold bj
  rw [g]
  exact ⟨e, m, rfl⟩
theorem bj_lt {B : List Int} (h : B.Pairwise (· < ·)) {x y : Int} (h0 : 0 ≤ x) (h1 : x < y) (h2 : y < B.length) : bj B x < bj B y := by
  obtain ⟨_, _, g1⟩ := bj_ok (B := B) h0 (by omega)
  obtain ⟨_, _, g2⟩ := bj_ok (B := B) (x := y) (by omega) h2
  obtain ⟨a, e1⟩ := List.getElem?_eq_some_iff.mp g1
  obtain ⟨b, e2⟩ := List.getElem?_eq_some_iff.mp g2
  have := List.pairwise_iff_getElem.mp h x.toNat y.toNat a b (by omega)
  rw [e1, e2] at this
  exact this
theorem bj_inv {B : List Int} {c : Int} (h : c ∈ B) : exists x : Int, 0 ≤ x ∧ x < B.length ∧ bj B x = c := by
  obtain ⟨i, hi⟩ := List.getElem?_of_mem h
  have := (List.getElem?_eq_some_iff.mp hi).1
  refine ⟨(i : Int), by omega, by omega, ?_⟩
  unfold bj
  rw [show ((i : Int)).toNat = i by omega, hi]
  rfl
theorem map_ix {A : Type} {B : List Int} (f : Int -> A) {x : Int} (h0 : 0 ≤ x) (h1 : x < B.length) : ix (B.map f) x = some (f (bj B x)) := by
  obtain ⟨_, _, g⟩ := bj_ok (B := B) h0 h1
  have e : (B.map f)[x.toNat]? = some (f (bj B x)) := by rw [List.getElem?_map, g]; rfl
  have := atI_nat e
  rwa [show ((x.toNat : Nat) : Int) = x by omega] at this
def turns (B : List Int) (fs : List (Int -> Bool)) (x : Int) : Bool := fs.any fun f => !decide (f (bj B (x - 1)) = f (bj B x))
theorem due_step {B : List Int} {fs : List (Int -> Bool)} (hf : fs.length ≤ 100) {x : Int} (h0 : 1 ≤ x) (h1 : x < B.length) (D : List Int) (hD : D.length ≤ 1000) :
    m_law_l3 B (fs.map fun f => B.map f) D x = some (if turns B fs x = true then D ++ [bj B x] else D) := by
  unfold m_law_l3
  have e1 : (o1 fAny (oComp (fun (y : (List Bool)) => (some true)) (fun (y : (List Bool)) => (o2 fNe (o2 ix (some y) (o2 fSub (some x) (some (1 : Int)))) (o2 ix (some y) (some x)))) (some (fs.map fun f => B.map f)))) = some (turns B fs x) := by
    have hc : comp (fun _ : List Bool => some true) (fun (y : (List Bool)) => (o2 fNe (o2 ix (some y) (o2 fSub (some x) (some (1 : Int)))) (o2 ix (some y) (some x)))) (fs.map fun f => B.map f) = some (fs.map fun f => !decide (f (bj B (x - 1)) = f (bj B x))) := by
      clear hf
      induction fs with
      | nil => rfl
      | cons f fs ih =>
        rw [List.map_cons, List.map_cons]
        unfold comp
        rw [ih, Option.bind_some, if_pos rfl]
        simp only [o2, Option.bind_some, fSub, map_ix f (show 0 ≤ x - 1 by omega) (show x - 1 < B.length by omega), map_ix f (show 0 ≤ x by omega) h1, fNe]
    unfold oComp lim
    rw [Option.bind_some, if_pos (by rw [List.length_map]; omega), Option.bind_some, hc]
    simp only [o1, Option.bind_some, fAny, turns, List.any_map]
    rfl
  rw [e1, Option.bind_some]
  by_cases c : turns B fs x = true
  · rw [if_pos c, if_pos c]
    rw [show o2 ix (some B) (some x) = some (bj B x) from (bj_ok (by omega) h1).1, Option.bind_some, fApp, if_pos (by omega)]
    rfl
  · rw [if_neg c, if_neg c]
theorem due_fold {B : List Int} {fs : List (Int -> Bool)} (hf : fs.length ≤ 100) : forall (xs : List Int) (D : List Int), (forall x, x ∈ xs -> 1 ≤ x ∧ x < B.length) -> D.length + xs.length ≤ 1000 -> foldO (m_law_l3 B (fs.map fun f => B.map f)) D xs = some (D ++ (xs.filter (turns B fs)).map (bj B))
  | [], D, _, _ => by simp [foldO]
  | x :: xs, D, h, hl => by
    simp only [List.length_cons] at hl
    obtain ⟨a, b⟩ := h x List.mem_cons_self
    unfold foldO
    rw [due_step hf a b D (by omega), Option.bind_some, List.filter_cons]
    have hr : forall y, y ∈ xs -> 1 ≤ y ∧ y < B.length := fun y hy => h y (List.mem_cons_of_mem _ hy)
    by_cases c : turns B fs x = true
    · rw [if_pos c, if_pos c, due_fold hf xs _ hr (by rw [List.length_append]; simp only [List.length_cons, List.length_nil]; omega), List.map_cons, List.append_assoc]
      rfl
    · rw [if_neg c, if_neg c, due_fold hf xs _ hr (by omega)]
def St (most : Int) (B : List Int) (k : List (Tl (Int × Int))) (t : List (List Bool)) : Prop := exists fs : List (Int -> Bool), fs.length = 5 ∧ (forall f, f ∈ fs -> Fl most B f) ∧ k = fs.map (mk most B) ∧ t = fs.map fun f => B.map f
theorem tot_mk {most : Int} {B : List Int} (h : Bg most B) : forall {fs : List (Int -> Bool)}, (forall f, f ∈ fs -> Fl most B f) -> tot ((fs.map (mk most B)).map Tl.l) ≤ 64 * fs.length
  | [], _ => Nat.le_refl _
  | f :: fs, hf => by
    have := mk_len h (hf f List.mem_cons_self)
    have := tot_mk h (fs := fs) fun g hg => hf g (List.mem_cons_of_mem _ hg)
    simp only [List.map_cons, tot, List.length_cons]
    omega
theorem lows_ok {most : Int} (hm : 0 ≤ most) {B : List Int} (h : Bg most B) {fs : List (Int -> Bool)} (hl : fs.length = 5) (hf : forall f, f ∈ fs -> Fl most B f) :
    (nx (rws most (fs.map (mk most B)))).map (·.1) = bj B 0 :: ((rng 1 B.length).filter (turns B fs)).map (bj B) := by
  have ht := tot_mk h hf
  obtain ⟨r1, r2, r3⟩ := sset_ok ([0, most + 1] ++ bds (fs.map (mk most B)))
  have hin : forall c, c ∈ rws most (fs.map (mk most B)) ↔ c = 0 ∨ c = most + 1 ∨ exists f, f ∈ fs ∧ c ∈ bd (mk most B f).l := fun c => by
    refine (r2 c).trans ?_
    rw [List.mem_append, bds_mem]
    constructor
    · rintro (z | ⟨S, hS, z⟩)
      · simp only [List.mem_cons, List.not_mem_nil, or_false] at z
        exact z.elim .inl fun z => .inr (.inl z)
      · obtain ⟨f, a, e⟩ := List.mem_map.mp hS
        exact .inr (.inr ⟨f, a, by rw [e]; exact z⟩)
    · rintro (z | z | ⟨f, a, z⟩)
      · exact .inl (by simp [z])
      · exact .inl (by simp [z])
      · exact .inr ⟨_, List.mem_map_of_mem a, z⟩
  have hR : (rws most (fs.map (mk most B))).Pairwise (· < ·) := r1
  generalize rws most (fs.map (mk most B)) = R at hin hR
  have hw : forall c, c ∈ R -> 0 ≤ c ∧ c ≤ most + 1 := fun c hc => by
    rcases (hin c).mp hc with z | z | ⟨f, a, z⟩
    · omega
    · omega
    · obtain ⟨p, hp, y⟩ := bd_mem.mp z
      have := mk_wd h (hf f a) p hp
      omega
  have h1 : most + 1 ∈ R := (hin _).mpr (.inr (.inl rfl))
  obtain ⟨R', hR'⟩ : exists R', R = R' ++ [most + 1] := by
    rcases snoc R with rfl | ⟨R', l, rfl⟩
    · cases h1
    · refine ⟨R', ?_⟩
      have : l = most + 1 := by
        rcases List.mem_append.mp h1 with z | z
        · have := (List.pairwise_append.mp hR).2.2 _ z l (by simp)
          have := (hw l (by simp)).2
          omega
        · exact (List.mem_singleton.mp z).symm
      rw [this]
  have bl : (0 : Int) < B.length := by
    have := List.length_pos_of_mem h.z
    omega
  have b0 : bj B 0 = 0 := by
    obtain ⟨_, m0, _⟩ := bj_ok (B := B) (Int.le_refl _) bl
    obtain ⟨x, x0, x1, e⟩ := bj_inv h.z
    have := (h.rg _ m0).1
    by_cases c : x = 0
    · subst c; exact e
    · have := bj_lt h.pw (Int.le_refl 0) (show 0 < x by omega) x1
      omega
  rw [hR', nx_lows]
  rw [hR'] at hR
  obtain ⟨p1, _, p3⟩ := List.pairwise_append.mp hR
  have hm' : forall c, c ∈ R' ↔ c ≤ most ∧ c ∈ R := fun c => by
    rw [hR', List.mem_append, List.mem_singleton]
    constructor
    · intro z
      have := p3 c z (most + 1) (by simp)
      exact ⟨by omega, .inl z⟩
    · rintro ⟨z, y | y⟩
      · exact y
      · omega
  refine sorted_eq p1 (List.pairwise_cons.mpr ⟨fun c hc => ?_, ?_⟩) fun c => ?_
  · obtain ⟨x, hx, rfl⟩ := List.mem_map.mp hc
    have := rng_mem.mp (List.mem_filter.mp hx).1
    exact bj_lt h.pw (Int.le_refl 0) (by omega) this.2
  · rw [List.pairwise_map]
    refine List.Pairwise.imp_of_mem (fun {a b} ha hb hab => ?_) ((rng_lt 1 B.length).sublist List.filter_sublist)
    have qa := rng_mem.mp (List.mem_filter.mp ha).1
    have qb := rng_mem.mp (List.mem_filter.mp hb).1
    exact bj_lt h.pw (by omega) hab qb.2
  · have prev : forall x : Int, 1 ≤ x -> x < B.length -> forall f, f ∈ fs -> f (bj B x - 1) = f (bj B (x - 1)) := fun x x1 x2 f hfm => by
      obtain ⟨_, m1, _⟩ := bj_ok (B := B) (x := x - 1) (by omega) (by omega)
      obtain ⟨_, m2, _⟩ := bj_ok (B := B) (x := x) (by omega) (by omega)
      have lt := bj_lt h.pw (show 0 ≤ x - 1 by omega) (show x - 1 < x by omega) x2
      refine (hf f hfm).to (h.rg _ m1).1 (by omega) (by have := (h.rg _ m2).2; omega) fun d hd g1 g2 => ?_
      obtain ⟨y, y0, y1, rfl⟩ := bj_inv hd
      have : x - 1 < y := by
        rcases Int.lt_trichotomy y (x - 1) with z | z | z
        · have := bj_lt h.pw y0 z (by omega); omega
        · subst z; omega
        · exact z
      rcases Int.lt_trichotomy y x with z | z | z
      · omega
      · subst z; omega
      · have := bj_lt h.pw (by omega) z y1; omega
    rw [hm', hin, List.mem_cons, List.mem_map]
    constructor
    · rintro ⟨cm, z | z | ⟨f, hfm, z⟩⟩
      · exact .inl (by rw [b0]; exact z)
      · omega
      · by_cases c0 : c = 0
        · exact .inl (by rw [b0]; exact c0)
        · obtain ⟨p, hp, y⟩ := bd_mem.mp z
          have wd := mk_wd h (hf f hfm) p hp
          have tn := turn_at (mk_ok h (hf f hfm)).2.1 z
          rw [mk_inb h (hf f hfm) (by omega) cm, mk_inb h (hf f hfm) (by omega) (by omega)] at tn
          have cB : c ∈ B := by
            by_cases cb : c ∈ B
            · exact cb
            · exact (tn (hf f hfm c (by omega) cm cb).symm).elim
          obtain ⟨x, x0, x1, rfl⟩ := bj_inv cB
          have xp : 1 ≤ x := by
            by_cases xz : x = 0
            · rw [xz] at c0; exact (c0 b0).elim
            · omega
          refine .inr ⟨x, List.mem_filter.mpr ⟨rng_mem.mpr ⟨xp, x1⟩, List.any_eq_true.mpr ⟨f, hfm, ?_⟩⟩, rfl⟩
          rw [← prev x xp x1 f hfm]
          simpa using tn
    · rintro (z | ⟨x, hx, rfl⟩)
      · rw [b0] at z
        exact ⟨by omega, .inl z⟩
      · obtain ⟨xr, xt⟩ := List.mem_filter.mp hx
        obtain ⟨xp, x1⟩ := rng_mem.mp xr
        obtain ⟨f, hfm, ft⟩ := List.any_eq_true.mp xt
        rw [← prev x xp x1 f hfm] at ft
        have ft : ¬ f (bj B x - 1) = f (bj B x) := by simpa using ft
        obtain ⟨_, m2, _⟩ := bj_ok (B := B) (x := x) (by omega) x1
        have rg := h.rg _ m2
        have lt := bj_lt h.pw (Int.le_refl 0) (show 0 < x by omega) x1
        refine ⟨rg.2, .inr (.inr ⟨f, hfm, ?_⟩)⟩
        by_cases w : bj B x ∈ bd (mk most B f).l
        · exact w
        · have := inb_flat (L := (mk most B f).l) (n := bj B x) fun p hp => ⟨fun e => w (bd_mem.mpr ⟨p, hp, .inl e⟩), fun e => w (bd_mem.mpr ⟨p, hp, .inr e⟩)⟩
          rw [mk_inb h (hf f hfm) rg.1 rg.2, mk_inb h (hf f hfm) (by omega) (by omega)] at this
          exact (ft this.symm).elim
end Law

set_option Elab.async false
set_option linter.all false
set_option maxRecDepth 100000
namespace Law
open PySem PySem.Spec PyProof.Rows L2 Pu
open Pu.Rp (rp)
theorem fset_ok {A : Type} {xs : List A} {i : Int} (h0 : 0 ≤ i) (h1 : i < xs.length) (y : A) : fSetL xs i y = some (xs.set i.toNat y) := by
  unfold fSetL
  have : ixN xs.length i = some i.toNat := by
    unfold ixN
    rw [if_pos h0, if_pos (by omega)]
  rw [this]
  rfl
theorem set_st {most : Int} {B : List Int} {fs : List (Int -> Bool)} (hl : fs.length = 5) (hf : forall f, f ∈ fs -> Fl most B f) {g : Int -> Bool} (hg : Fl most B g) (j : Nat) : St most B ((fs.map (mk most B)).set j (mk most B g)) ((fs.map fun f => B.map f).set j (B.map g)) :=
  ⟨fs.set j g, by rw [List.length_set]; exact hl, fun f h => by
    rcases List.mem_or_eq_of_mem_set h with h | rfl
    · exact hf f h
    · exact hg, by rw [List.map_set], by rw [List.map_set]⟩
theorem zip_op {B : List Int} (hB : B.length ≤ 64) (f g : Int -> Bool) (F : Bool × Bool -> Option Bool) (op : Bool -> Bool -> Bool) (h : forall a b, F (a, b) = some (op a b)) : oComp (fun (y : Bool × Bool) => (some true)) F (o2 fZip (some (B.map f)) (some (B.map g))) = some (B.map fun b => op (f b) (g b)) := by
  simp only [oComp, lim, o2, Option.bind_some, fZip, List.zip_map', List.length_map]
  rw [if_pos (by omega), Option.bind_some, comp_all (g := fun y : Bool × Bool => op y.1 y.2) (fun _ _ => rfl) (fun y _ => h y.1 y.2), List.map_map]
  rfl
/-- the end of a deed: the set and its truths put where they belong -/
theorem put_ok {most : Int} {B : List Int} {fs : List (Int -> Bool)} (hl : fs.length = 5) (hf : forall f, f ∈ fs -> Fl most B f) {g : Int -> Bool} (hg : Fl most B g) {i : Int} (h0 : 0 ≤ i) (h1 : i < 5) (mk' : Option (Tl (Int × Int))) (e1 : mk' = some (mk most B g)) (mt : Option (List Bool)) (e2 : mt = some (B.map g)) :
    exists r, (mk'.bind fun y1 => (some i).bind fun y2 => (fSetL (fs.map (mk most B)) y2 y1).bind fun k => mt.bind fun y3 => (some i).bind fun y4 => (fSetL (fs.map fun f => B.map f) y4 y3).bind fun t => (some i).bind fun y5 => some (y5, k, t)) = some r ∧ St most B r.2.1 r.2.2 ∧ 0 ≤ r.1 ∧ r.1 < 5 := by
  subst e1 e2
  refine ⟨(i, (fs.map (mk most B)).set i.toNat (mk most B g), (fs.map fun f => B.map f).set i.toNat (B.map g)), ?_, set_st hl hf hg _, h0, h1⟩
  rw [Option.bind_some, Option.bind_some, fset_ok h0 (by rw [List.length_map]; omega), Option.bind_some, Option.bind_some, Option.bind_some, fset_ok h0 (by rw [List.length_map]; omega), Option.bind_some, Option.bind_some]
theorem at_ok {fs : List (Int -> Bool)} (hl : fs.length = 5) {i : Int} (h0 : 0 ≤ i) (h1 : i < 5) : exists f, f ∈ fs ∧ forall {A : Type} (h : (Int -> Bool) -> A), o2 ix (some (fs.map h)) (some i) = some (h f) := by
  obtain ⟨f, _, m, g⟩ := ix_nat (s := fs) h0 (by omega)
  refine ⟨f, m, fun h => ?_⟩
  have e : (fs.map h)[i.toNat]? = some (h f) := by rw [List.getElem?_map, g]; rfl
  have := atI_nat e
  rwa [show ((i.toNat : Nat) : Int) = i by omega] at this
theorem enum_get {A : Type} {xs : List A} {i : Nat} {x : A} (h : xs[i]? = some x) : (enum xs)[i]? = some ((i : Int), x) := by
  have hi := (List.getElem?_eq_some_iff.mp h).1
  unfold enum
  rw [List.getElem?_zip_eq_some]
  refine ⟨?_, h⟩
  rw [List.getElem?_map, List.getElem?_range hi]
  rfl
theorem enum_len {A : Type} (xs : List A) : (enum xs).length = xs.length := by
  unfold enum
  simp
theorem enum_map {A : Type} {B : List Int} {f : Int -> A} {C : Type} (F : Int × A -> C) (G : Int -> C) (h : forall i : Nat, forall b, B[i]? = some b -> F ((i : Int), f b) = G b) : (enum (B.map f)).map F = B.map G := by
  apply List.ext_getElem?
  intro i
  rw [List.getElem?_map, List.getElem?_map]
  cases e : B[i]? with
  | none =>
    have : (enum (B.map f))[i]? = none := by
      rw [List.getElem?_eq_none_iff, enum_len, List.length_map]
      exact List.getElem?_eq_none_iff.mp e
    rw [this]
    rfl
  | some b =>
    have : (B.map f)[i]? = some (f b) := by rw [List.getElem?_map, e]; rfl
    rw [enum_get this]
    simp only [Option.map_some]
    rw [h i b e]
theorem deed_ok {most : Int} (hm : 0 ≤ most) {B : List Int} (h : Bg most B) (c : Int) {k : List (Tl (Int × Int))} {t : List (List Bool)} (hs : St most B k t) : exists r, m_law_deed c most k t B = some r ∧ St most B r.2.1 r.2.2 ∧ 0 ≤ r.1 ∧ r.1 < 5 := by
  obtain ⟨fs, hl, hf, rfl, rfl⟩ := hs
  obtain ⟨w, ew, w0, w1⟩ := mixed_ok c 13
  have hB := h.len
  have a0 := Int.emod_nonneg w (show (5 : Int) ≠ 0 by decide)
  have a1 := Int.emod_lt_of_pos w (show (0 : Int) < 5 by decide)
  have b0 := Int.emod_nonneg (w / 5) (show (5 : Int) ≠ 0 by decide)
  have b1 := Int.emod_lt_of_pos (w / 5) (show (0 : Int) < 5 by decide)
  obtain ⟨f, mf, ef⟩ := at_ok hl a0 a1
  obtain ⟨g, mg, eg⟩ := at_ok hl b0 b1
  have hff := hf f mf
  have hgg := hf g mg
  have dv : forall n : Int, 0 < n ∧ n < 1073741824 -> o2 fDiv (some w) (some n) = some (w / n) := fun n hn => fDiv_1 hn
  have md : forall x n : Int, 0 < n -> o2 fMod (some x) (some n) = some (x % n) := fun x n hn => fMod_1 hn
  unfold m_law_deed
  rw [show o2 m_law_mixed (some c) (some 13) = some w from ew, Option.bind_some, md _ _ (by decide), Option.bind_some, dv 5 (by decide), md _ _ (by decide), Option.bind_some, dv 25 (by decide), md _ _ (by decide), Option.bind_some]
  have eqd : forall x n : Int, o2 fEq (some x) (some n) = some (decide (x = n)) := fun _ _ => rfl
  rw [eqd, Option.bind_some]
  by_cases d0 : w / 25 % 7 = 0
  · rw [if_pos (decide_eq_true d0), ef, eg, ef, eg]
    exact put_ok hl hf (hff.op hgg fun x y => x || y) a0 a1 _ (joined_mk h hff hgg) _ (zip_op hB f g _ (fun a b => a || b) fun a b => by cases a <;> rfl)
  rw [if_neg (by simpa using d0), eqd, Option.bind_some]
  by_cases d1 : w / 25 % 7 = 1
  · rw [if_pos (decide_eq_true d1), ef, eg, ef, eg]
    exact put_ok hl hf (hff.op hgg fun x y => x && y) a0 a1 _ (cut_mk h hff hgg) _ (zip_op hB f g _ (fun a b => a && b) fun a b => by cases a <;> rfl)
  rw [if_neg (by simpa using d1), eqd, Option.bind_some]
  by_cases d2 : w / 25 % 7 = 2
  · rw [if_pos (decide_eq_true d2), ef, eg, ef, eg]
    exact put_ok hl hf (hff.op hgg fun x y => x && !y) a0 a1 _ (less_mk h hff hgg) _ (zip_op hB f g _ (fun a b => a && !b) fun a b => by cases a <;> rfl)
  rw [if_neg (by simpa using d2), eqd, Option.bind_some]
  by_cases d3 : w / 25 % 7 = 3
  · rw [if_pos (decide_eq_true d3), ef, ef]
    refine put_ok hl hf (hff.op hff fun x _ => !x) a0 a1 _ (turned_mk hm h hff) _ ?_
    unfold oComp lim
    rw [Option.bind_some, if_pos (by rw [List.length_map]; omega), Option.bind_some, comp_all (f := fun y : Bool => oNot (some y)) (g := fun y : Bool => !y) (fun _ _ => rfl) (fun y _ => rfl), List.map_map]
    rfl
  rw [if_neg (by simpa using d3), eqd]
  have e4 : (oAnd (some (decide (w / 25 % 7 = 4))) (o2 fEq (o2 fMod (o2 fDiv (some w) (some (175 : Int))) (some (3 : Int))) (some (1 : Int)))) = some (decide (w / 25 % 7 = 4) && decide (w / 175 % 3 = 1)) := by
    rw [dv 175 (by decide), md _ _ (by decide), eqd]
    by_cases z : w / 25 % 7 = 4 <;> simp [oAnd, z]
  rw [e4, Option.bind_some]
  have u0 := Int.emod_nonneg (w / 525) (show (2 : Int) ≠ 0 by decide)
  have u1 := Int.emod_lt_of_pos (w / 525) (show (0 : Int) < 2 by decide)
  by_cases d4 : (decide (w / 25 % 7 = 4) && decide (w / 175 % 3 = 1)) = true
  · rw [if_pos d4, dv 525 (by decide), md _ _ (by decide)]
    have e5 : (o1 szOk (o2 fCons (o1 fTup (o2 fCons (o2 fPair (some (0 : Int)) (some most)) (some ([] : List (Int × Int))))) (o2 fCons (o1 fTup (some ([] : List (Int × Int)))) (some ([] : List (Tl (Int × Int))))))) = some [⟨[(0, most)]⟩, ⟨[]⟩] := rfl
    rw [e5]
    refine put_ok hl hf (g := fun _ => decide (w / 525 % 2 = 0)) (Fl.const _) a0 a1 _ ?_ _ ?_
    · rcases (show w / 525 % 2 = 0 ∨ w / 525 % 2 = 1 by omega) with z | z
      · rw [z, show o2 ix (some [(⟨[(0, most)]⟩ : Tl (Int × Int)), ⟨[]⟩]) (some (0 : Int)) = some ⟨[(0, most)]⟩ from rfl, whole_mk hm h]
        rfl
      · rw [z, show o2 ix (some [(⟨[(0, most)]⟩ : Tl (Int × Int)), ⟨[]⟩]) (some (1 : Int)) = some ⟨[]⟩ from rfl, none_mk h]
        rfl
    · unfold oComp lim
      rw [Option.bind_some, if_pos (by omega), Option.bind_some]
      exact comp_all (fun _ _ => rfl) fun y _ => eqd _ _
  rw [if_neg d4]
  clear e4 d4 eqd
  obtain ⟨w2, ew2, _, _⟩ := mixed_ok c 14
  obtain ⟨w3, ew3, _, _⟩ := mixed_ok c 15
  have n0 : (0 : Int) < B.length := by
    have := List.length_pos_of_mem h.z
    omega
  have x0 := Int.emod_nonneg w2 (show (B.length : Int) ≠ 0 by omega)
  have x1 := Int.emod_lt_of_pos w2 n0
  have y0 := Int.emod_nonneg w3 (show (3 : Int) ≠ 0 by decide)
  have mn := @imin_le ((B.length : Int) - 1) (w2 % (B.length : Int) + w3 % 3)
  have s1 : o2 fMod (o2 m_law_mixed (some c) (some (14 : Int))) (o1 fLen (some B)) = some (w2 % (B.length : Int)) := by
    simp only [o1, o2, Option.bind_some, ew2, fLen]
    exact fMod_1 n0
  have s2 : o2 fMin (o2 fSub (o1 fLen (some B)) (some (1 : Int))) (o2 fAdd (some (w2 % (B.length : Int))) (o2 fMod (o2 m_law_mixed (some c) (some (15 : Int))) (some (3 : Int)))) = some (imin ((B.length : Int) - 1) (w2 % (B.length : Int) + w3 % 3)) := by
    simp only [o1, o2, Option.bind_some, ew3, fLen, fSub, fAdd, fMod_1 (show (0 : Int) < 3 by decide), fMin]
  rw [s1, Option.bind_some, s2, Option.bind_some]
  generalize w2 % (B.length : Int) = x at x0 x1 mn
  generalize imin ((B.length : Int) - 1) (x + w3 % 3) = y at mn
  have xy : x ≤ y := by omega
  have yn : y < B.length := by omega
  obtain ⟨ex, mx, gx⟩ := bj_ok (B := B) x0 x1
  obtain ⟨v, ev, hv⟩ : exists v, ix (B ++ [most + 1]) (y + 1) = some v ∧ ((y + 1 < B.length ∧ v = bj B (y + 1)) ∨ (y + 1 = B.length ∧ v = most + 1)) := by
    by_cases z : y + 1 < B.length
    · obtain ⟨_, _, gz⟩ := bj_ok (B := B) (x := y + 1) (by omega) z
      refine ⟨_, ?_, .inl ⟨z, rfl⟩⟩
      have e : (B ++ [most + 1])[(y + 1).toNat]? = some (bj B (y + 1)) := by
        rw [List.getElem?_append_left (by omega)]
        exact gz
      have := atI_nat e
      rwa [show (((y + 1).toNat : Nat) : Int) = y + 1 by omega] at this
    · have z2 : y + 1 = B.length := by omega
      refine ⟨_, ?_, .inr ⟨z2, rfl⟩⟩
      have e : (B ++ [most + 1])[B.length]? = some (most + 1) := by simp
      have := atI_nat e
      rwa [← z2] at this
  have s3 : o2 fPair (o2 ix (some B) (some x)) (o2 fSub (o2 ix (o2 fCat (some B) (o1 szOk (o2 fCons (o2 fAdd (some most) (some (1 : Int))) (some ([] : List Int))))) (o2 fAdd (some y) (some (1 : Int)))) (some (1 : Int))) = some (bj B x, v - 1) := by
    have : o2 fCat (some B) (o1 szOk (o2 fCons (o2 fAdd (some most) (some (1 : Int))) (some ([] : List Int)))) = some (B ++ [most + 1]) := if_pos (by rw [List.length_append]; simp only [List.length_cons, List.length_nil]; omega)
    rw [this]
    simp only [o2, Option.bind_some, ex, fAdd, ev, fSub, fPair]
  rw [s3, Option.bind_some, ef, ef]
  have low : forall i : Int, 0 ≤ i -> i < B.length -> (bj B x ≤ bj B i ↔ x ≤ i) := fun i i0 i1 => by
    rcases Int.lt_trichotomy x i with z | z | z
    · have := bj_lt h.pw x0 z i1
      exact ⟨fun _ => by omega, fun _ => by omega⟩
    · subst z
      exact ⟨fun _ => Int.le_refl _, fun _ => Int.le_refl _⟩
    · have := bj_lt h.pw i0 z x1
      exact ⟨fun _ => by omega, fun _ => by omega⟩
  have high : forall i : Int, 0 ≤ i -> i < B.length -> (bj B i ≤ v - 1 ↔ i ≤ y) := fun i i0 i1 => by
    rcases hv with ⟨h1, rfl⟩ | ⟨h1, rfl⟩
    · rcases Int.lt_trichotomy i (y + 1) with z | z | z
      · have := bj_lt h.pw i0 z h1
        exact ⟨fun _ => by omega, fun _ => by omega⟩
      · subst z
        exact ⟨fun _ => by omega, fun _ => by omega⟩
      · have := bj_lt h.pw (by omega) z i1
        exact ⟨fun _ => by omega, fun _ => by omega⟩
    · have := (h.rg _ (bj_ok (B := B) i0 i1).2.1).2
      exact ⟨fun _ => by omega, fun _ => by omega⟩
  have vr : v ≤ most + 1 := by
    rcases hv with ⟨h1, rfl⟩ | ⟨h1, rfl⟩
    · have := (h.rg _ (bj_ok (B := B) (x := y + 1) (by omega) h1).2.1).2
      omega
    · exact Int.le_refl _
  have lr := h.rg _ mx
  have lh := (high x x0 x1).mpr xy
  have hg : Fl most B fun n => f n || (decide (bj B x ≤ n) && decide (n ≤ v - 1)) := fun n a b c => by
    show (f n || (decide (bj B x ≤ n) && decide (n ≤ v - 1))) = (f (n - 1) || (decide (bj B x ≤ n - 1) && decide (n - 1 ≤ v - 1)))
    rw [hff n a b c]
    have n1 : n ≠ bj B x := fun z => c (by rw [z]; exact mx)
    have n2 : n ≠ v := fun z => by
      rcases hv with ⟨h1, e⟩ | ⟨h1, e⟩
      · exact c (by rw [z, e]; exact (bj_ok (B := B) (x := y + 1) (by omega) h1).2.1)
      · omega
    have q1 : decide (bj B x ≤ n) = decide (bj B x ≤ n - 1) := by
      rw [Bool.eq_iff_iff, decide_eq_true_eq, decide_eq_true_eq]
      omega
    have q2 : decide (n ≤ v - 1) = decide (n - 1 ≤ v - 1) := by
      rw [Bool.eq_iff_iff, decide_eq_true_eq, decide_eq_true_eq]
      omega
    rw [q1, q2]
  refine put_ok hl hf hg a0 a1 _ ?_ _ ?_
  · have ln := mk_len h hff
    have : o2 fCat (o1 fListT (some (mk most B f))) (o1 szOk (o2 fCons (some (bj B x, v - 1)) (some ([] : List (Int × Int))))) = some ((mk most B f).l ++ [(bj B x, v - 1)]) := if_pos (by rw [List.length_append]; simp only [List.length_cons, List.length_nil]; omega)
    rw [this]
    exact setof_mk h hff ⟨lr.1, lh, by omega⟩ hg fun n _ _ => by
      rw [Bool.or_eq_true, Bool.and_eq_true, decide_eq_true_eq, decide_eq_true_eq]
  · rw [Option.map_some]
    unfold oComp lim
    rw [Option.bind_some, if_pos (by rw [enum_len, List.length_map]; omega), Option.bind_some]
    rw [comp_all (f := fun (y2 : (Int × Bool)) => (oOr (some y2.2) (oChain fLe fLe (some x) (some y2.1) (some y)))) (g := fun y2 : Int × Bool => y2.2 || (decide (x ≤ y2.1) && decide (y2.1 ≤ y))) (fun _ _ => rfl) fun y2 _ => by
      simp only [oOr, oChain, Option.bind_some, fLe]
      by_cases z : y2.2 = true
      · simp [z]
      · by_cases z2 : x ≤ y2.1 <;> simp [z, z2]]
    congr 1
    refine enum_map _ _ fun i b hb => ?_
    have il := (List.getElem?_eq_some_iff.mp hb).1
    have eb : bj B (i : Int) = b := by
      unfold bj
      rw [show ((i : Int)).toNat = i by omega, hb]
      rfl
    have l1 := low i (by omega) (by omega)
    have h1 := high i (by omega) (by omega)
    rw [eb] at l1 h1
    simp only
    congr 1
    rw [Bool.eq_iff_iff]
    simp only [Bool.and_eq_true, decide_eq_true_eq]
    rw [l1, h1]
/-! the law -/
theorem ahead_ok (most : Int) (hm : 0 ≤ most) : forall (xs : List (Int × Int)) (s : List Int), (forall c, c ∈ s -> 0 ≤ c ∧ c ≤ most) -> s.length + xs.length ≤ 1000 -> exists t, foldO (m_law_l1 most) s xs = some t ∧ (forall c, c ∈ t -> 0 ≤ c ∧ c ≤ most) ∧ t.length = s.length + xs.length
  | [], s, h, _ => ⟨s, rfl, h, rfl⟩
  | x :: xs, s, h, hl => by
    simp only [List.length_cons] at hl
    obtain ⟨v, ev, v0, v1⟩ := point_ok x.2 x.1 most s hm
    obtain ⟨t, e, a, b⟩ := ahead_ok most hm xs (s ++ [v]) (fun c hc => by
      rcases List.mem_append.mp hc with hc | hc
      · exact h c hc
      · rw [List.mem_singleton.mp hc]; exact ⟨v0, v1⟩) (by rw [List.length_append]; simp only [List.length_cons, List.length_nil]; omega)
    refine ⟨t, ?_, a, by rw [b, List.length_append]; simp only [List.length_cons, List.length_nil]; omega⟩
    unfold foldO m_law_l1
    simp only [o4, Option.bind_some, ev, fApp]
    rw [if_pos (by omega)]
    exact e
theorem rg64 (n : Nat) (h : n ≤ 64) : rgOk (n : Int) = true := by
  unfold rgOk
  rw [Bool.and_eq_true, decide_eq_true_eq, decide_eq_true_eq]
  omega
theorem rng2_ok (n : Nat) (h : n ≤ 64) : fRng2 1 (n : Int) = some (rng 1 n) := by
  have k1 : rgOk 1 = true := rg64 1 (by decide)
  unfold fRng2
  rw [if_pos]
  exact ⟨k1, rg64 n h⟩
theorem turn_ok {most : Int} (hm : 0 ≤ most) {B : List Int} (h : Bg most B) (ahead : List Int) (x : Int × Int) (s : List (Tl (Int × Int)) × List (List Bool)) (hs : St most B s.1 s.2) : exists t, m_law_l2 most ahead B s x = some (.inl t) ∧ St most B t.1 t.2 := by
  obtain ⟨r, er, hst, r0, r1⟩ := deed_ok hm h x.2 hs
  refine ⟨(r.2.1, r.2.2), ?_, hst⟩
  obtain ⟨fs, hl, hf, ek, et⟩ := hst
  have hB := h.len
  obtain ⟨f, mf, ef⟩ := at_ok hl r0 r1
  obtain ⟨p, ep, p0, p1⟩ := point_ok x.2 (x.1 + 90) most ahead hm
  have tt := tot_mk h hf
  unfold m_law_l2
  rw [Option.bind_some, Option.bind_some, Option.bind_some, er, Option.bind_some, ek, et]
  have e1 : (oComp (fun (y : (List Bool)) => (some true)) (fun (y : (List Bool)) => (o3 m_law_made (some most) (some B) (some y))) (some (fs.map fun f => B.map f))) = some (fs.map (mk most B)) := by
    have hc : comp (fun _ : List Bool => some true) (fun (y : (List Bool)) => (o3 m_law_made (some most) (some B) (some y))) (fs.map fun f => B.map f) = some (fs.map (mk most B)) := by
      clear ek et ef mf hl tt
      induction fs with
      | nil => rfl
      | cons g fs ih =>
        rw [List.map_cons, List.map_cons]
        unfold comp
        rw [ih fun q hq => hf q (List.mem_cons_of_mem _ hq), Option.bind_some, if_pos rfl]
        simp only [o3, Option.bind_some, (mk_ok h (hf g List.mem_cons_self)).1]
    unfold oComp lim
    rw [Option.bind_some, if_pos (by rw [List.length_map]; omega), Option.bind_some, hc]
  rw [e1, show o2 fNe (some (fs.map (mk most B))) (some (fs.map (mk most B))) = some false by simp [o2, fNe], Option.bind_some, if_neg (by decide)]
  rw [ef, ef]
  have e2 : o5 m_law_asked (some most) (some (mk most B f)) (some (B.map f)) (some B) (o4 m_law_point (some x.2) (o2 fAdd (some x.1) (some (90 : Int))) (some most) (some ahead)) = some true := by
    have ep' : o4 m_law_point (some x.2) (o2 fAdd (some x.1) (some (90 : Int))) (some most) (some ahead) = some p := by
      simp only [o4, o2, Option.bind_some, fAdd]
      exact ep
    rw [ep']
    simp only [o5, Option.bind_some]
    exact asked_ok h (hf f mf) p0 p1
  rw [e2, show oNot (some true) = some false from rfl, Option.bind_some, if_neg (by decide)]
  have e3 : o2 m_parts (some most) (o1 fList (some (fs.map (mk most B)))) = some (nx (rws most (fs.map (mk most B)))) := by
    simp only [o1, o2, Option.bind_some, fList]
    exact parts_ok most _ (by omega)
  have n0 : (0 : Int) < B.length := by
    have := List.length_pos_of_mem h.z
    omega
  have e4 : o1 szOk (o2 fCons (o2 ix (some B) (some (0 : Int))) (some ([] : List Int))) = some [bj B 0] := by
    simp only [o1, o2, Option.bind_some, (bj_ok (B := B) (Int.le_refl 0) n0).1, fCons]
    rfl
  have e5 : o2 fRng2 (some (1 : Int)) (o1 fLen (some B)) = some (rng 1 B.length) := by
    have e : o1 fLen (some B) = some (B.length : Int) := by unfold o1 fLen; rw [Option.bind_some]
    rw [e]
    unfold o2
    rw [Option.bind_some, Option.bind_some]
    exact rng2_ok _ hB
  have rl : (rng 1 (B.length : Int)).length ≤ 64 := by
    unfold rng
    rw [List.length_map, List.length_range]
    omega
  rw [e3, Option.bind_some, e4, Option.bind_some, e5, Option.bind_some, due_fold (by omega) _ _ (fun y hy => rng_mem.mp hy) (by simp only [List.length_cons, List.length_nil]; omega), Option.bind_some]
  have nl : (nx (rws most (fs.map (mk most B)))).length ≤ 90000 := by
    have hlen : ([0, most + 1] ++ bds (fs.map (mk most B))).length ≤ 1000 := by
      rw [List.length_append, bds_len]
      simp only [List.length_cons, List.length_nil]
      omega
    have := nx_len (rws most (fs.map (mk most B)))
    have := (sset_ok ([0, most + 1] ++ bds (fs.map (mk most B)))).2.2
    unfold rws at *
    omega
  have e6 : (oComp (fun (y : (Int × Int)) => (some true)) (fun (y : (Int × Int)) => (some y.1)) (some (nx (rws most (fs.map (mk most B)))))) = some ([bj B 0] ++ ((rng 1 B.length).filter (turns B fs)).map (bj B)) := by
    unfold oComp lim
    rw [Option.bind_some, if_pos (by omega), Option.bind_some, comp_all (f := fun y : Int × Int => some y.1) (g := fun y : Int × Int => y.1) (fun _ _ => rfl) (fun _ _ => rfl), lows_ok hm h hl hf]
    rfl
  rw [e6, show o2 fNe (some ([bj B 0] ++ ((rng 1 B.length).filter (turns B fs)).map (bj B))) (some ([bj B 0] ++ ((rng 1 B.length).filter (turns B fs)).map (bj B))) = some false by simp [o2, fNe], Option.bind_some, if_neg (by decide)]
theorem loop_st {most : Int} (hm : 0 ≤ most) {B : List Int} (h : Bg most B) (ahead : List Int) : forall (xs : List (Int × Int)) (s : List (Tl (Int × Int)) × List (List Bool)), St most B s.1 s.2 -> exists t, loopM (m_law_l2 most ahead B) s xs = some (.inl t)
  | [], s, _ => ⟨s, rfl⟩
  | x :: xs, s, hs => by
    obtain ⟨t, e, a⟩ := turn_ok hm h ahead x s hs
    obtain ⟨u, e2⟩ := loop_st hm h ahead xs t a
    refine ⟨u, ?_⟩
    unfold loopM
    rw [e]
    exact e2
theorem m_law_true (ns : List Int) (hl : ns.length ≤ 63) : m_law ⟨ns⟩ = some true := by
  obtain ⟨most, em, m0, m1⟩ := most_ok ns hl
  have hcut := cutM_len ns none (some 60)
  have hen : (enum (cutM ns none (some 60))).length ≤ 63 := by
    rw [enum_len]
    omega
  obtain ⟨ah, ea, ha, la⟩ := ahead_ok most m0 (enum (cutM ns none (some 60))) [] (fun _ h => nomatch h) (by simp only [List.length_nil]; omega)
  simp only [List.length_nil] at la
  obtain ⟨b1, b2, b3⟩ := sset_ok ([0] ++ ah)
  have hl0 : ([0] ++ ah).length ≤ 64 := by rw [List.length_append]; simp only [List.length_cons, List.length_nil]; omega
  have h : Bg most (sset ([0] ++ ah)) := ⟨b1, by omega, (b2 0).mpr (by simp), fun c hc => by
    rcases List.mem_append.mp ((b2 c).mp hc) with z | z
    · rw [List.mem_singleton.mp z]; omega
    · exact ha c z⟩
  unfold m_law
  rw [show o1 m_law_most_by (some ⟨ns⟩) = some most from em, Option.bind_some]
  rw [show ((o3 fCutS (some (⟨ns⟩ : Scr)) (some none) (((some (60 : Int))).map some))).map enum = some (enum (cutM ns none (some 60))) from rfl, Option.bind_some, ea, Option.bind_some]
  have e1 : (o1 fSortSet (o2 fCat (o1 szOk (o2 fCons (some (0 : Int)) (some ([] : List Int)))) (some ah))) = some (sset ([0] ++ ah)) := by
    have : (o2 fCat (o1 szOk (o2 fCons (some (0 : Int)) (some ([] : List Int)))) (some ah)) = some ([0] ++ ah) := if_pos (by omega)
    rw [this]
    exact if_pos (by omega)
  rw [e1, Option.bind_some]
  generalize sset ([0] ++ ah) = B at h
  have e2 : (oComp (fun (y : Int) => (some true)) (fun (y : Int) => (o1 fTup (some ([] : List (Int × Int))))) (o1 fRng1 (some (5 : Int)))) = some ((List.replicate 5 fun _ : Int => false).map (mk most B)) := by
    rw [List.map_replicate, ← none_mk h]
    rfl
  have e3 : (oComp (fun (y : Int) => (some true)) (fun (y : Int) => (oComp (fun (y : Int) => (some true)) (fun (y : Int) => (some false)) (some B))) (o1 fRng1 (some (5 : Int)))) = some ((List.replicate 5 fun _ : Int => false).map fun f => B.map f) := by
    have : (oComp (fun (y : Int) => (some true)) (fun (y : Int) => (some false)) (some B)) = some (B.map fun _ => false) := by
      unfold oComp lim
      rw [Option.bind_some, if_pos (by have := h.len; omega), Option.bind_some]
      exact comp_all (fun _ _ => rfl) fun _ _ => rfl
    rw [List.map_replicate, this]
    rfl
  rw [e2, Option.bind_some, e3, Option.bind_some, Option.bind_some]
  obtain ⟨u, eu⟩ := loop_st m0 h ah (enum (cutM ns none (some 60))) ((List.replicate 5 fun _ : Int => false).map (mk most B), (List.replicate 5 fun _ : Int => false).map fun f => B.map f) ⟨_, by simp, fun f hf => by
    rw [List.eq_of_mem_replicate hf]
    exact Fl.const false, rfl, rfl⟩
  rw [eu, Option.bind_some]
  rfl
end Law

set_option Elab.async false
set_option linter.all false
set_option maxRecDepth 100000
namespace Law
open PySem PySem.Spec PyProof.Rows L2 Pu
open Pu.Rp (rp)
def spLaw (K : Fg) : Sp := fun vs H Q _ => exists (a : Addr) (ns : List Int), vs = [.ref a] ∧ SqL K H a (ns.map V.int) ∧ ns.length ≤ 63 ∧ forall H', Q (.bl true) H'
theorem all_mk {l : PySem.W.OpenLaw} {w : World} {K : Fg} {h : Heap} {mg : Str → Option Value} {fa : Addr} (X : K.In h) (G : h.Ns mainGlobals mg) (hfa : mg "law" = some (.ref fa))
    {f0 : Addr} {od0 an0 : Option Addr} {sl0 : Array (Option Value)} {oc0 kV0 dc0 pm0 cd0 ct0 : Value}
    (a0 : PySem.W.nsIn K mainGlobals "whole_to" = some (some (.ref f0))) (l0 : K.lookup f0 = some ⟨oc0, od0, .func (PySem.W.fnOf "whole_to" "whole_to" (defArgs s_whole_to) (defBody s_whole_to) (defScope s_whole_to) .none kV0 dc0 pm0 an0 cd0 ct0), sl0⟩) (c0 : PySem.W.codeIn K cd0 "whole_to" = true) (k0 : PySem.W.keepIn K (.ref f0) = true)
    {f1 : Addr} {od1 an1 : Option Addr} {sl1 : Array (Option Value)} {oc1 kV1 dc1 pm1 cd1 ct1 : Value}
    (a1 : PySem.W.nsIn K mainGlobals "is_stretch" = some (some (.ref f1))) (l1 : K.lookup f1 = some ⟨oc1, od1, .func (PySem.W.fnOf "is_stretch" "is_stretch" (defArgs s_is_stretch) (defBody s_is_stretch) (defScope s_is_stretch) .none kV1 dc1 pm1 an1 cd1 ct1), sl1⟩) (c1 : PySem.W.codeIn K cd1 "is_stretch" = true) (k1 : PySem.W.keepIn K (.ref f1) = true)
    {f2 : Addr} {od2 an2 : Option Addr} {sl2 : Array (Option Value)} {oc2 kV2 dc2 pm2 cd2 ct2 : Value}
    (a2 : PySem.W.nsIn K mainGlobals "merged" = some (some (.ref f2))) (l2 : K.lookup f2 = some ⟨oc2, od2, .func (PySem.W.fnOf "merged" "merged" (defArgs s_merged) (defBody s_merged) (defScope s_merged) .none kV2 dc2 pm2 an2 cd2 ct2), sl2⟩) (c2 : PySem.W.codeIn K cd2 "merged" = true) (k2 : PySem.W.keepIn K (.ref f2) = true)
    {f3 : Addr} {od3 an3 : Option Addr} {sl3 : Array (Option Value)} {oc3 kV3 dc3 pm3 cd3 ct3 : Value}
    (a3 : PySem.W.nsIn K mainGlobals "set_of" = some (some (.ref f3))) (l3 : K.lookup f3 = some ⟨oc3, od3, .func (PySem.W.fnOf "set_of" "set_of" (defArgs s_set_of) (defBody s_set_of) (defScope s_set_of) .none kV3 dc3 pm3 an3 cd3 ct3), sl3⟩) (c3 : PySem.W.codeIn K cd3 "set_of" = true) (k3 : PySem.W.keepIn K (.ref f3) = true)
    {f4 : Addr} {od4 an4 : Option Addr} {sl4 : Array (Option Value)} {oc4 kV4 dc4 pm4 cd4 ct4 : Value}
    (a4 : PySem.W.nsIn K mainGlobals "joined" = some (some (.ref f4))) (l4 : K.lookup f4 = some ⟨oc4, od4, .func (PySem.W.fnOf "joined" "joined" (defArgs s_joined) (defBody s_joined) (defScope s_joined) .none kV4 dc4 pm4 an4 cd4 ct4), sl4⟩) (c4 : PySem.W.codeIn K cd4 "joined" = true) (k4 : PySem.W.keepIn K (.ref f4) = true)
    {f5 : Addr} {od5 an5 : Option Addr} {sl5 : Array (Option Value)} {oc5 kV5 dc5 pm5 cd5 ct5 : Value}
    (a5 : PySem.W.nsIn K mainGlobals "cut" = some (some (.ref f5))) (l5 : K.lookup f5 = some ⟨oc5, od5, .func (PySem.W.fnOf "cut" "cut" (defArgs s_cut) (defBody s_cut) (defScope s_cut) .none kV5 dc5 pm5 an5 cd5 ct5), sl5⟩) (c5 : PySem.W.codeIn K cd5 "cut" = true) (k5 : PySem.W.keepIn K (.ref f5) = true)
    {f6 : Addr} {od6 an6 : Option Addr} {sl6 : Array (Option Value)} {oc6 kV6 dc6 pm6 cd6 ct6 : Value}
    (a6 : PySem.W.nsIn K mainGlobals "turned" = some (some (.ref f6))) (l6 : K.lookup f6 = some ⟨oc6, od6, .func (PySem.W.fnOf "turned" "turned" (defArgs s_turned) (defBody s_turned) (defScope s_turned) .none kV6 dc6 pm6 an6 cd6 ct6), sl6⟩) (c6 : PySem.W.codeIn K cd6 "turned" = true) (k6 : PySem.W.keepIn K (.ref f6) = true)
    {f7 : Addr} {od7 an7 : Option Addr} {sl7 : Array (Option Value)} {oc7 kV7 dc7 pm7 cd7 ct7 : Value}
    (a7 : PySem.W.nsIn K mainGlobals "less" = some (some (.ref f7))) (l7 : K.lookup f7 = some ⟨oc7, od7, .func (PySem.W.fnOf "less" "less" (defArgs s_less) (defBody s_less) (defScope s_less) .none kV7 dc7 pm7 an7 cd7 ct7), sl7⟩) (c7 : PySem.W.codeIn K cd7 "less" = true) (k7 : PySem.W.keepIn K (.ref f7) = true)
    {f8 : Addr} {od8 an8 : Option Addr} {sl8 : Array (Option Value)} {oc8 kV8 dc8 pm8 cd8 ct8 : Value}
    (a8 : PySem.W.nsIn K mainGlobals "has" = some (some (.ref f8))) (l8 : K.lookup f8 = some ⟨oc8, od8, .func (PySem.W.fnOf "has" "has" (defArgs s_has) (defBody s_has) (defScope s_has) .none kV8 dc8 pm8 an8 cd8 ct8), sl8⟩) (c8 : PySem.W.codeIn K cd8 "has" = true) (k8 : PySem.W.keepIn K (.ref f8) = true)
    {f9 : Addr} {od9 an9 : Option Addr} {sl9 : Array (Option Value)} {oc9 kV9 dc9 pm9 cd9 ct9 : Value}
    (a9 : PySem.W.nsIn K mainGlobals "size" = some (some (.ref f9))) (l9 : K.lookup f9 = some ⟨oc9, od9, .func (PySem.W.fnOf "size" "size" (defArgs s_size) (defBody s_size) (defScope s_size) .none kV9 dc9 pm9 an9 cd9 ct9), sl9⟩) (c9 : PySem.W.codeIn K cd9 "size" = true) (k9 : PySem.W.keepIn K (.ref f9) = true)
    {f10 : Addr} {od10 an10 : Option Addr} {sl10 : Array (Option Value)} {oc10 kV10 dc10 pm10 cd10 ct10 : Value}
    (a10 : PySem.W.nsIn K mainGlobals "least" = some (some (.ref f10))) (l10 : K.lookup f10 = some ⟨oc10, od10, .func (PySem.W.fnOf "least" "least" (defArgs s_least) (defBody s_least) (defScope s_least) .none kV10 dc10 pm10 an10 cd10 ct10), sl10⟩) (c10 : PySem.W.codeIn K cd10 "least" = true) (k10 : PySem.W.keepIn K (.ref f10) = true)
    {f11 : Addr} {od11 an11 : Option Addr} {sl11 : Array (Option Value)} {oc11 kV11 dc11 pm11 cd11 ct11 : Value}
    (a11 : PySem.W.nsIn K mainGlobals "parts" = some (some (.ref f11))) (l11 : K.lookup f11 = some ⟨oc11, od11, .func (PySem.W.fnOf "parts" "parts" (defArgs s_parts) (defBody s_parts) (defScope s_parts) .none kV11 dc11 pm11 an11 cd11 ct11), sl11⟩) (c11 : PySem.W.codeIn K cd11 "parts" = true) (k11 : PySem.W.keepIn K (.ref f11) = true)
    {f12 : Addr} {od12 an12 : Option Addr} {sl12 : Array (Option Value)} {oc12 kV12 dc12 pm12 cd12 ct12 : Value}
    (a12 : PySem.W.nsIn K mainGlobals "_law_mixed" = some (some (.ref f12))) (l12 : K.lookup f12 = some ⟨oc12, od12, .func (PySem.W.fnOf "_law_mixed" "_law_mixed" (defArgs s_law_mixed) (defBody s_law_mixed) (defScope s_law_mixed) .none kV12 dc12 pm12 an12 cd12 ct12), sl12⟩) (c12 : PySem.W.codeIn K cd12 "_law_mixed" = true) (k12 : PySem.W.keepIn K (.ref f12) = true)
    {f13 : Addr} {od13 an13 : Option Addr} {sl13 : Array (Option Value)} {oc13 kV13 dc13 pm13 cd13 ct13 : Value}
    (a13 : PySem.W.nsIn K mainGlobals "_law_great" = some (some (.ref f13))) (l13 : K.lookup f13 = some ⟨oc13, od13, .func (PySem.W.fnOf "_law_great" "_law_great" (defArgs s_law_great) (defBody s_law_great) (defScope s_law_great) .none kV13 dc13 pm13 an13 cd13 ct13), sl13⟩) (c13 : PySem.W.codeIn K cd13 "_law_great" = true) (k13 : PySem.W.keepIn K (.ref f13) = true)
    {f14 : Addr} {od14 an14 : Option Addr} {sl14 : Array (Option Value)} {oc14 kV14 dc14 pm14 cd14 ct14 : Value}
    (a14 : PySem.W.nsIn K mainGlobals "_law_point" = some (some (.ref f14))) (l14 : K.lookup f14 = some ⟨oc14, od14, .func (PySem.W.fnOf "_law_point" "_law_point" (defArgs s_law_point) (defBody s_law_point) (defScope s_law_point) .none kV14 dc14 pm14 an14 cd14 ct14), sl14⟩) (c14 : PySem.W.codeIn K cd14 "_law_point" = true) (k14 : PySem.W.keepIn K (.ref f14) = true)
    {f15 : Addr} {od15 an15 : Option Addr} {sl15 : Array (Option Value)} {oc15 kV15 dc15 pm15 cd15 ct15 : Value}
    (a15 : PySem.W.nsIn K mainGlobals "_law_made" = some (some (.ref f15))) (l15 : K.lookup f15 = some ⟨oc15, od15, .func (PySem.W.fnOf "_law_made" "_law_made" (defArgs s_law_made) (defBody s_law_made) (defScope s_law_made) .none kV15 dc15 pm15 an15 cd15 ct15), sl15⟩) (c15 : PySem.W.codeIn K cd15 "_law_made" = true) (k15 : PySem.W.keepIn K (.ref f15) = true)
    {f16 : Addr} {od16 an16 : Option Addr} {sl16 : Array (Option Value)} {oc16 kV16 dc16 pm16 cd16 ct16 : Value}
    (a16 : PySem.W.nsIn K mainGlobals "_law_most_by" = some (some (.ref f16))) (l16 : K.lookup f16 = some ⟨oc16, od16, .func (PySem.W.fnOf "_law_most_by" "_law_most_by" (defArgs s_law_most_by) (defBody s_law_most_by) (defScope s_law_most_by) .none kV16 dc16 pm16 an16 cd16 ct16), sl16⟩) (c16 : PySem.W.codeIn K cd16 "_law_most_by" = true) (k16 : PySem.W.keepIn K (.ref f16) = true)
    {f17 : Addr} {od17 an17 : Option Addr} {sl17 : Array (Option Value)} {oc17 kV17 dc17 pm17 cd17 ct17 : Value}
    (a17 : PySem.W.nsIn K mainGlobals "_law_deed" = some (some (.ref f17))) (l17 : K.lookup f17 = some ⟨oc17, od17, .func (PySem.W.fnOf "_law_deed" "_law_deed" (defArgs s_law_deed) (defBody s_law_deed) (defScope s_law_deed) .none kV17 dc17 pm17 an17 cd17 ct17), sl17⟩) (c17 : PySem.W.codeIn K cd17 "_law_deed" = true) (k17 : PySem.W.keepIn K (.ref f17) = true)
    {f18 : Addr} {od18 an18 : Option Addr} {sl18 : Array (Option Value)} {oc18 kV18 dc18 pm18 cd18 ct18 : Value}
    (a18 : PySem.W.nsIn K mainGlobals "_law_asked" = some (some (.ref f18))) (l18 : K.lookup f18 = some ⟨oc18, od18, .func (PySem.W.fnOf "_law_asked" "_law_asked" (defArgs s_law_asked) (defBody s_law_asked) (defScope s_law_asked) .none kV18 dc18 pm18 an18 cd18 ct18), sl18⟩) (c18 : PySem.W.codeIn K cd18 "_law_asked" = true) (k18 : PySem.W.keepIn K (.ref f18) = true)
    {f19 : Addr} {od19 an19 : Option Addr} {sl19 : Array (Option Value)} {oc19 kV19 dc19 pm19 cd19 ct19 : Value}
    (a19 : PySem.W.nsIn K mainGlobals "law" = some (some (.ref f19))) (l19 : K.lookup f19 = some ⟨oc19, od19, .func (PySem.W.fnOf "law" "law" (defArgs s_law) (defBody s_law) (defScope s_law) .none kV19 dc19 pm19 an19 cd19 ct19), sl19⟩) (c19 : PySem.W.codeIn K cd19 "law" = true) (k19 : PySem.W.keepIn K (.ref f19) = true)
    (z_any : PySem.W.nsIn K mainGlobals "any" = some none)
    (z_bool : PySem.W.nsIn K mainGlobals "bool" = some none)
    (z_enumerate : PySem.W.nsIn K mainGlobals "enumerate" = some none)
    (z_int : PySem.W.nsIn K mainGlobals "int" = some none)
    (z_isinstance : PySem.W.nsIn K mainGlobals "isinstance" = some none)
    (z_len : PySem.W.nsIn K mainGlobals "len" = some none)
    (z_list : PySem.W.nsIn K mainGlobals "list" = some none)
    (z_max : PySem.W.nsIn K mainGlobals "max" = some none)
    (z_min : PySem.W.nsIn K mainGlobals "min" = some none)
    (z_range : PySem.W.nsIn K mainGlobals "range" = some none)
    (z_set : PySem.W.nsIn K mainGlobals "set" = some none)
    (z_sorted : PySem.W.nsIn K mainGlobals "sorted" = some none)
    (z_sum : PySem.W.nsIn K mainGlobals "sum" = some none)
    (z_tuple : PySem.W.nsIn K mainGlobals "tuple" = some none)
    (z_zip : PySem.W.nsIn K mainGlobals "zip" = some none)
    : exists fd : FuncData, (forall (s : Shared) (v : Value), BindsTo s fd ⟨[v], []⟩ [("_law_script", v)]) ∧ forall base : Heap, K.In base → base.Ns mainGlobals mg → FnOk l.prog w K mg base CX0 5 fa fd ["_law_script"] (spLaw K) := by
  have e := hfa.symm.trans (PySem.W.mg_of X G a19)
  cases e
  have F0 := fun_mk (st := s_whole_to) l0 c0 k0
  have F1 := fun_mk (st := s_is_stretch) l1 c1 k1
  have F2 := fun_mk (st := s_merged) l2 c2 k2
  have F3 := fun_mk (st := s_set_of) l3 c3 k3
  have F4 := fun_mk (st := s_joined) l4 c4 k4
  have F5 := fun_mk (st := s_cut) l5 c5 k5
  have F6 := fun_mk (st := s_turned) l6 c6 k6
  have F7 := fun_mk (st := s_less) l7 c7 k7
  have F8 := fun_mk (st := s_has) l8 c8 k8
  have F9 := fun_mk (st := s_size) l9 c9 k9
  have F10 := fun_mk (st := s_least) l10 c10 k10
  have F11 := fun_mk (st := s_parts) l11 c11 k11
  have F12 := fun_mk (st := s_law_mixed) l12 c12 k12
  have F13 := fun_mk (st := s_law_great) l13 c13 k13
  have F14 := fun_mk (st := s_law_point) l14 c14 k14
  have F15 := fun_mk (st := s_law_made) l15 c15 k15
  have F16 := fun_mk (st := s_law_most_by) l16 c16 k16
  have F17 := fun_mk (st := s_law_deed) l17 c17 k17
  have F18 := fun_mk (st := s_law_asked) l18 c18 k18
  have F19 := fun_mk (st := s_law) l19 c19 k19
  have b0 := F0.binds (ps := ["most", "thing"]) fun _ _ _ _ _ _ us hl => match us, hl with | [_, _], _ => rfl
  have b1 := F1.binds (ps := ["most", "thing"]) fun _ _ _ _ _ _ us hl => match us, hl with | [_, _], _ => rfl
  have b2 := F2.binds (ps := ["rising"]) fun _ _ _ _ _ _ us hl => match us, hl with | [_], _ => rfl
  have b3 := F3.binds (ps := ["most", "pairs"]) fun _ _ _ _ _ _ us hl => match us, hl with | [_, _], _ => rfl
  have b4 := F4.binds (ps := ["one", "other"]) fun _ _ _ _ _ _ us hl => match us, hl with | [_, _], _ => rfl
  have b5 := F5.binds (ps := ["one", "other"]) fun _ _ _ _ _ _ us hl => match us, hl with | [_, _], _ => rfl
  have b6 := F6.binds (ps := ["most", "one"]) fun _ _ _ _ _ _ us hl => match us, hl with | [_, _], _ => rfl
  have b7 := F7.binds (ps := ["one", "other"]) fun _ _ _ _ _ _ us hl => match us, hl with | [_, _], _ => rfl
  have b8 := F8.binds (ps := ["one", "number"]) fun _ _ _ _ _ _ us hl => match us, hl with | [_, _], _ => rfl
  have b9 := F9.binds (ps := ["one"]) fun _ _ _ _ _ _ us hl => match us, hl with | [_], _ => rfl
  have b10 := F10.binds (ps := ["one"]) fun _ _ _ _ _ _ us hl => match us, hl with | [_], _ => rfl
  have b11 := F11.binds (ps := ["most", "some"]) fun _ _ _ _ _ _ us hl => match us, hl with | [_, _], _ => rfl
  have b12 := F12.binds (ps := ["_law_cell", "_law_k"]) fun _ _ _ _ _ _ us hl => match us, hl with | [_, _], _ => rfl
  have b13 := F13.binds (ps := ["_law_cell", "_law_k"]) fun _ _ _ _ _ _ us hl => match us, hl with | [_, _], _ => rfl
  have b14 := F14.binds (ps := ["_law_cell", "_law_k", "_law_most", "_law_ahead"]) fun _ _ _ _ _ _ us hl => match us, hl with | [_, _, _, _], _ => rfl
  have b15 := F15.binds (ps := ["_law_most", "_law_begins", "_law_truths"]) fun _ _ _ _ _ _ us hl => match us, hl with | [_, _, _], _ => rfl
  have b16 := F16.binds (ps := ["_law_script"]) fun _ _ _ _ _ _ us hl => match us, hl with | [_], _ => rfl
  have b17 := F17.binds (ps := ["_law_cell", "_law_most", "_law_kept", "_law_truths", "_law_begins"]) fun _ _ _ _ _ _ us hl => match us, hl with | [_, _, _, _, _], _ => rfl
  have b18 := F18.binds (ps := ["_law_most", "_law_one", "_law_truths", "_law_begins", "_law_number"]) fun _ _ _ _ _ _ us hl => match us, hl with | [_, _, _, _, _], _ => rfl
  have b19 := F19.binds (ps := ["_law_script"]) fun _ _ _ _ _ _ us hl => match us, hl with | [_], _ => rfl
  let T : Txt K mg := { a_whole_to := f0, d_whole_to := _, F_whole_to := F0, b_whole_to := b0, g_whole_to := PySem.W.mg_of X G a0, a_is_stretch := f1, d_is_stretch := _, F_is_stretch := F1, b_is_stretch := b1, g_is_stretch := PySem.W.mg_of X G a1, a_merged := f2, d_merged := _, F_merged := F2, b_merged := b2, g_merged := PySem.W.mg_of X G a2, a_set_of := f3, d_set_of := _, F_set_of := F3, b_set_of := b3, g_set_of := PySem.W.mg_of X G a3, a_joined := f4, d_joined := _, F_joined := F4, b_joined := b4, g_joined := PySem.W.mg_of X G a4, a_cut := f5, d_cut := _, F_cut := F5, b_cut := b5, g_cut := PySem.W.mg_of X G a5, a_turned := f6, d_turned := _, F_turned := F6, b_turned := b6, g_turned := PySem.W.mg_of X G a6, a_less := f7, d_less := _, F_less := F7, b_less := b7, g_less := PySem.W.mg_of X G a7, a_has := f8, d_has := _, F_has := F8, b_has := b8, g_has := PySem.W.mg_of X G a8, a_size := f9, d_size := _, F_size := F9, b_size := b9, g_size := PySem.W.mg_of X G a9, a_least := f10, d_least := _, F_least := F10, b_least := b10, g_least := PySem.W.mg_of X G a10, a_parts := f11, d_parts := _, F_parts := F11, b_parts := b11, g_parts := PySem.W.mg_of X G a11, a_law_mixed := f12, d_law_mixed := _, F_law_mixed := F12, b_law_mixed := b12, g_law_mixed := PySem.W.mg_of X G a12, a_law_great := f13, d_law_great := _, F_law_great := F13, b_law_great := b13, g_law_great := PySem.W.mg_of X G a13, a_law_point := f14, d_law_point := _, F_law_point := F14, b_law_point := b14, g_law_point := PySem.W.mg_of X G a14, a_law_made := f15, d_law_made := _, F_law_made := F15, b_law_made := b15, g_law_made := PySem.W.mg_of X G a15, a_law_most_by := f16, d_law_most_by := _, F_law_most_by := F16, b_law_most_by := b16, g_law_most_by := PySem.W.mg_of X G a16, a_law_deed := f17, d_law_deed := _, F_law_deed := F17, b_law_deed := b17, g_law_deed := PySem.W.mg_of X G a17, a_law_asked := f18, d_law_asked := _, F_law_asked := F18, b_law_asked := b18, g_law_asked := PySem.W.mg_of X G a18, a_law := fa, d_law := _, F_law := F19, b_law := b19, g_law := PySem.W.mg_of X G a19, n_any := PySem.W.mg_none_of X G z_any, n_bool := PySem.W.mg_none_of X G z_bool, n_enumerate := PySem.W.mg_none_of X G z_enumerate, n_int := PySem.W.mg_none_of X G z_int, n_isinstance := PySem.W.mg_none_of X G z_isinstance, n_len := PySem.W.mg_none_of X G z_len, n_list := PySem.W.mg_none_of X G z_list, n_max := PySem.W.mg_none_of X G z_max, n_min := PySem.W.mg_none_of X G z_min, n_range := PySem.W.mg_none_of X G z_range, n_set := PySem.W.mg_none_of X G z_set, n_sorted := PySem.W.mg_none_of X G z_sorted, n_sum := PySem.W.mg_none_of X G z_sum, n_tuple := PySem.W.mg_none_of X G z_tuple, n_zip := PySem.W.mg_none_of X G z_zip }
  refine ⟨_, fun s v => .of_eq rfl, fun base _ _ => (ok_law T).imp fun vs H Q E h => ?_⟩
  obtain ⟨a, ns, rfl, hs, hl, q⟩ := h
  refine ⟨true, ⟨.ref a, ⟨ns⟩, rfl, ⟨a, rfl, hs⟩, m_law_true ns hl⟩, fun w H2 _ r => ?_⟩
  rw [show w = .bl true from r]
  exact q H2
end Law
open PySem PySem.W PyProof.Rows
set_option maxRecDepth 100000
set_option maxHeartbeats 0 in
theorem PySem.Challenge.cw_gatewright_k08_whole_sets_by_numbers_holds : PySem.Challenge.rw_gatewright_k08_whole_sets_by_numbers.Holds := by
  w_on; o_law; k_head; (case hw => w_witness2)
  k_fill
  refine L2.walk_of (l := PySem.Challenge.rw_gatewright_k08_whole_sets_by_numbers) (n := 63) (k := 5) (x := "_law_script") (CX := fun _ => L2.CX0) (sp := fun w => Law.spLaw _) rfl (by decide) rfl ⟨rfl, by decide, by decide⟩ (fun w h Y => PySem.W.kIn_of Y) ?F (fun _ _ a ns hl _ hS => ⟨a, ns, rfl, hS, hl, fun _ => rfl⟩) (fun _ _ _ _ _ h => h)
  case F =>
    intro w mg fa h KX G hmg
    refine' Law.all_mk KX G hmg ?a0 ?l0 ?c0 ?k0 ?a1 ?l1 ?c1 ?k1 ?a2 ?l2 ?c2 ?k2 ?a3 ?l3 ?c3 ?k3 ?a4 ?l4 ?c4 ?k4 ?a5 ?l5 ?c5 ?k5 ?a6 ?l6 ?c6 ?k6 ?a7 ?l7 ?c7 ?k7 ?a8 ?l8 ?c8 ?k8 ?a9 ?l9 ?c9 ?k9 ?a10 ?l10 ?c10 ?k10 ?a11 ?l11 ?c11 ?k11 ?a12 ?l12 ?c12 ?k12 ?a13 ?l13 ?c13 ?k13 ?a14 ?l14 ?c14 ?k14 ?a15 ?l15 ?c15 ?k15 ?a16 ?l16 ?c16 ?k16 ?a17 ?l17 ?c17 ?k17 ?a18 ?l18 ?c18 ?k18 ?a19 ?l19 ?c19 ?k19 ?z_any ?z_bool ?z_enumerate ?z_int ?z_isinstance ?z_len ?z_list ?z_max ?z_min ?z_range ?z_set ?z_sorted ?z_sum ?z_tuple ?z_zip
    (case a0 => k_is); (case l0 => k_is); (case c0 => k_is); (case k0 => k_is); (case a1 => k_is); (case l1 => k_is); (case c1 => k_is); (case k1 => k_is); (case a2 => k_is); (case l2 => k_is); (case c2 => k_is); (case k2 => k_is); (case a3 => k_is); (case l3 => k_is); (case c3 => k_is); (case k3 => k_is); (case a4 => k_is); (case l4 => k_is); (case c4 => k_is); (case k4 => k_is); (case a5 => k_is); (case l5 => k_is); (case c5 => k_is); (case k5 => k_is); (case a6 => k_is); (case l6 => k_is); (case c6 => k_is); (case k6 => k_is); (case a7 => k_is); (case l7 => k_is); (case c7 => k_is); (case k7 => k_is); (case a8 => k_is); (case l8 => k_is); (case c8 => k_is); (case k8 => k_is); (case a9 => k_is); (case l9 => k_is); (case c9 => k_is); (case k9 => k_is); (case a10 => k_is); (case l10 => k_is); (case c10 => k_is); (case k10 => k_is); (case a11 => k_is); (case l11 => k_is); (case c11 => k_is); (case k11 => k_is); (case a12 => k_is); (case l12 => k_is); (case c12 => k_is); (case k12 => k_is); (case a13 => k_is); (case l13 => k_is); (case c13 => k_is); (case k13 => k_is); (case a14 => k_is); (case l14 => k_is); (case c14 => k_is); (case k14 => k_is); (case a15 => k_is); (case l15 => k_is); (case c15 => k_is); (case k15 => k_is); (case a16 => k_is); (case l16 => k_is); (case c16 => k_is); (case k16 => k_is); (case a17 => k_is); (case l17 => k_is); (case c17 => k_is); (case k17 => k_is); (case a18 => k_is); (case l18 => k_is); (case c18 => k_is); (case k18 => k_is); (case a19 => k_is); (case l19 => k_is); (case c19 => k_is); (case k19 => k_is); (case z_any => k_is); (case z_bool => k_is); (case z_enumerate => k_is); (case z_int => k_is); (case z_isinstance => k_is); (case z_len => k_is); (case z_list => k_is); (case z_max => k_is); (case z_min => k_is); (case z_range => k_is); (case z_set => k_is); (case z_sorted => k_is); (case z_sum => k_is); (case z_tuple => k_is); (case z_zip => k_is)

