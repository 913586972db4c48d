import PyProof.Rows.All
import Wide.All
import OpenK.AllK
import Wide.FinOn
import HandS.ForMost
import HandS.Evl
import HandS.Walk
import HandS.SortRule
import HandS.SortInts
import HandS.Strs
import HandS.Flow
import HandS.Zip
import HandS.IsInst
import HandS.Style
import HandS.TupAny
import HandS.Wide
import HandS.WideBits
import HandS.SetFor
import KE.GoesNew
import PyProof.Rows.SetFrom
import KE.DataMinMax
import KE.SortData
import HandS.SortKw
import HandS.ForExc
import HandS.ExcIs
import HandS.ExcValue
import HandS.WordsExc
import PySem.Challenge.RW_gatewright_k01_sets_asked
set_option Elab.async false
set_option linter.all false
set_option maxRecDepth 100000
namespace Pu
open PySem PySem.Spec PyProof.Rows L2

abbrev Fg := PySem.W.Frag
/-- heap growth, heap growth as far as tuples go -/
def Gx (H H' : Hp) : Prop := forall a o, H a = some o -> H' a = some o
def Tx (H H' : Hp) : Prop := forall a xs, H a = some (.tup xs) -> H' a = some (.tup xs)
theorem Gx.rfl {H : Hp} : Gx H H := fun _ _ h => h
theorem Gx.trans {H H1 H2 : Hp} (a : Gx H H1) (b : Gx H1 H2) : Gx H H2 := fun x o h => b x o (a x o h)
theorem Gx.tx {H H' : Hp} (e : Gx H H') : Tx H H' := fun a xs h => e a _ h
theorem Gx.new {H : Hp} {p : Addr} {o : HO} (h : H p = none) : Gx H (upd H p o) := fun a u e => by
  rw [upd_ne (ne_of_none e h)]
  exact e
theorem Gx.back {H H' : Hp} {p : Addr} (e : Gx H H') (h : H' p = none) : H p = none := by
  cases q : H p with
  | none => rfl
  | some o => have z := e p o q; rw [h] at z; cases z
theorem Gx.mut {H H' : Hp} {p : Addr} {o : HO} (e : Gx H H') (h : H p = none) : Gx H (upd H' p o) := fun a u q => by
  rw [upd_ne (ne_of_none q h)]
  exact e a u q
theorem Gx.rd {H H' : Hp} {a : Addr} {u : HO} (e : Gx H H') (h : Rd H a u) : Rd H' a u := h.elim (fun z => .inl (e _ _ z)) fun ⟨o, z⟩ => .inr ⟨o, e _ _ z⟩
theorem Gx.l {K : Fg} {H H' : Hp} {a : Addr} {xs : List V} (e : Gx H H') (h : SqL K H a xs) : SqL K H' a xs := h.elim (fun z => .inl (e.rd z)) .inr
theorem Tx.mut {H : Hp} {p : Addr} {o : HO} (h : forall xs, H p ≠ some (.tup xs)) : Tx H (upd H p o) := fun a xs q => by
  rw [upd_ne (fun z => h xs (by rw [← z]; exact q))]
  exact q
theorem Tx.trans {H H1 H2 : Hp} (a : Tx H H1) (b : Tx H1 H2) : Tx H H2 := fun x o h => b x o (a x o h)

/-- how a value stands for a thing of mine -/
class Rp (A : Type) where
  rp : Fg -> Hp -> V -> A -> Prop
  mono : forall {K : Fg} {H H' : Hp} {v : V} {x : A}, Gx H H' -> rp K H v x -> rp K H' v x
/-- .. that leans on tuples alone -/
class Im (A : Type) [Rp A] : Prop where
  im : forall {K : Fg} {H H' : Hp} {v : V} {x : A}, Tx H H' -> Rp.rp K H v x -> Rp.rp K H' v x
open Rp (rp)
def Al {A : Type} (F : V -> A -> Prop) : List V -> List A -> Prop
  | [], [] => True
  | v :: vs, x :: xs => F v x ∧ Al F vs xs
  | _, _ => False
theorem Al.mono {A : Type} {F G : V -> A -> Prop} (h : forall v x, F v x -> G v x) : forall {vs : List V} {xs : List A}, Al F vs xs -> Al G vs xs
  | [], [], _ => trivial
  | _ :: _, _ :: _, q => ⟨h _ _ q.1, Al.mono h q.2⟩
  | [], _ :: _, q => q.elim
  | _ :: _, [], q => q.elim
theorem Al.len {A : Type} {F : V -> A -> Prop} : forall {vs : List V} {xs : List A}, Al F vs xs -> vs.length = xs.length
  | [], [], _ => rfl
  | _ :: _, _ :: _, q => by simp only [List.length_cons, Al.len q.2]
  | [], _ :: _, q => q.elim
  | _ :: _, [], q => q.elim
theorem Al.get {A : Type} {F : V -> A -> Prop} : forall {vs : List V} {xs : List A} {i : Nat} {x : A}, Al F vs xs -> xs[i]? = some x -> exists v, vs[i]? = some v ∧ F v x
  | [], [], _, _, _, h => by simp at h
  | v :: _, y :: _, 0, x, q, h => by
    have e : y = x := by simpa using h
    exact ⟨v, by simp, e ▸ q.1⟩
  | _ :: _, _ :: _, i + 1, x, q, h => by
    obtain ⟨v, h1, h2⟩ := Al.get (i := i) q.2 (by simpa using h)
    exact ⟨v, by simpa using h1, h2⟩
  | [], _ :: _, _, _, q, _ => q.elim
  | _ :: _, [], _, _, q, _ => q.elim
theorem Al.getV {A : Type} {F : V -> A -> Prop} : forall {vs : List V} {xs : List A} {i : Nat} {v : V}, Al F vs xs -> vs[i]? = some v -> exists x, xs[i]? = some x ∧ F v x
  | [], [], _, _, _, h => by simp at h
  | v :: _, y :: _, 0, x, q, h => by
    have e : v = x := by simpa using h
    exact ⟨y, by simp, e ▸ q.1⟩
  | _ :: _, _ :: _, i + 1, x, q, h => by
    obtain ⟨v, h1, h2⟩ := Al.getV (i := i) q.2 (by simpa using h)
    exact ⟨v, by simpa using h1, h2⟩
  | [], _ :: _, _, _, q, _ => q.elim
  | _ :: _, [], _, _, q, _ => q.elim
theorem Al.app {A : Type} {F : V -> A -> Prop} : forall {vs ws : List V} {xs ys : List A}, Al F vs xs -> Al F ws ys -> Al F (vs ++ ws) (xs ++ ys)
  | [], _, [], _, _, r => r
  | _ :: _, _, _ :: _, _, q, r => ⟨q.1, Al.app q.2 r⟩
  | [], _, _ :: _, _, q, _ => q.elim
  | _ :: _, _, [], _, q, _ => q.elim
theorem Al.one {A : Type} {F : V -> A -> Prop} {v : V} {x : A} (h : F v x) : Al F [v] [x] := ⟨h, trivial⟩
theorem Al.drop {A : Type} {F : V -> A -> Prop} : forall (n : Nat) {vs : List V} {xs : List A}, Al F vs xs -> Al F (vs.drop n) (xs.drop n)
  | 0, _, _, q => q
  | _ + 1, [], [], q => q
  | n + 1, _ :: _, _ :: _, q => Al.drop n q.2
  | _ + 1, [], _ :: _, q => q.elim
  | _ + 1, _ :: _, [], q => q.elim
theorem Al.take {A : Type} {F : V -> A -> Prop} : forall (n : Nat) {vs : List V} {xs : List A}, Al F vs xs -> Al F (vs.take n) (xs.take n)
  | 0, _, _, q => trivial
  | _ + 1, [], [], q => q
  | n + 1, _ :: _, _ :: _, q => ⟨q.1, Al.take n q.2⟩
  | _ + 1, [], _ :: _, q => q.elim
  | _ + 1, _ :: _, [], q => q.elim
theorem Al.set {A : Type} {F : V -> A -> Prop} {v : V} {x : A} (h : F v x) : forall (n : Nat) {vs : List V} {xs : List A}, Al F vs xs -> Al F (vs.set n v) (xs.set n x)
  | 0, [], [], q => q
  | 0, _ :: _, _ :: _, q => ⟨h, q.2⟩
  | _ + 1, [], [], q => q
  | n + 1, _ :: _, _ :: _, q => ⟨q.1, Al.set h n q.2⟩
  | 0, [], _ :: _, q => q.elim
  | 0, _ :: _, [], q => q.elim
  | _ + 1, [], _ :: _, q => q.elim
  | _ + 1, _ :: _, [], q => q.elim
theorem Al.rev {A : Type} {F : V -> A -> Prop} : forall {vs : List V} {xs : List A}, Al F vs xs -> Al F vs.reverse xs.reverse
  | [], [], q => q
  | v :: vs, x :: xs, q => by
    rw [List.reverse_cons, List.reverse_cons]
    exact Al.app (Al.rev q.2) (Al.one q.1)
  | [], _ :: _, q => q.elim
  | _ :: _, [], q => q.elim

instance : Rp Int := ⟨fun _ _ v x => v = .int x, fun _ h => h⟩
instance : Im Int := ⟨fun _ h => h⟩
instance : Rp Bool := ⟨fun _ _ v x => v = .bl x, fun _ h => h⟩
instance : Im Bool := ⟨fun _ h => h⟩
instance : Rp Str := ⟨fun _ _ v x => v = .str x, fun _ h => h⟩
instance : Im Str := ⟨fun _ h => h⟩
instance : Rp Unit := ⟨fun _ _ v _ => v = .non, fun _ h => h⟩
instance : Im Unit := ⟨fun _ h => h⟩
instance {A B : Type} [Rp A] [Rp B] : Rp (A × B) where
  rp K H v x := exists a u w, v = .ref a ∧ H a = some (.tup [u, w]) ∧ rp K H u x.1 ∧ rp K H w x.2
  mono e := fun ⟨a, u, w, h1, h2, h3, h4⟩ => ⟨a, u, w, h1, e _ _ h2, Rp.mono e h3, Rp.mono e h4⟩
instance {A B : Type} [Rp A] [Rp B] [Im A] [Im B] : Im (A × B) where
  im e := fun ⟨a, u, w, h1, h2, h3, h4⟩ => ⟨a, u, w, h1, e _ _ h2, Im.im e h3, Im.im e h4⟩
/-- three in a tuple -/
structure T3 (A B C : Type) where
  a : A
  b : B
  c : C
instance {A B C : Type} [Rp A] [Rp B] [Rp C] : Rp (T3 A B C) where
  rp K H v x := exists a u w z, v = .ref a ∧ H a = some (.tup [u, w, z]) ∧ rp K H u x.a ∧ rp K H w x.b ∧ rp K H z x.c
  mono e := fun ⟨a, u, w, z, h1, h2, h3, h4, h5⟩ => ⟨a, u, w, z, h1, e _ _ h2, Rp.mono e h3, Rp.mono e h4, Rp.mono e h5⟩
instance {A B C : Type} [Rp A] [Rp B] [Rp C] [Im A] [Im B] [Im C] : Im (T3 A B C) where
  im e := fun ⟨a, u, w, z, h1, h2, h3, h4, h5⟩ => ⟨a, u, w, z, h1, e _ _ h2, Im.im e h3, Im.im e h4, Im.im e h5⟩
/-- a tuple of as many as there are -/
structure Tl (A : Type) where
  l : List A
  deriving DecidableEq
instance {A : Type} [Rp A] : Rp (Tl A) where
  rp K H v x := exists a vs, v = .ref a ∧ H a = some (.tup vs) ∧ Al (rp K H) vs x.l
  mono e := fun ⟨a, vs, h1, h2, h3⟩ => ⟨a, vs, h1, e _ _ h2, h3.mono fun _ _ => Rp.mono e⟩
instance {A : Type} [Rp A] [Im A] : Im (Tl A) where
  im e := fun ⟨a, vs, h1, h2, h3⟩ => ⟨a, vs, h1, e _ _ h2, h3.mono fun _ _ => Im.im e⟩
/-- a list -/
instance {A : Type} [Rp A] : Rp (List A) where
  rp K H v x := exists a vs, v = .ref a ∧ H a = some (.lst vs) ∧ Al (rp K H) vs x
  mono e := fun ⟨a, vs, h1, h2, h3⟩ => ⟨a, vs, h1, e _ _ h2, h3.mono fun _ _ => Rp.mono e⟩
/-- the script -/
structure Scr where
  l : List Int
instance : Rp Scr where
  rp K H v x := exists a, v = .ref a ∧ SqL K H a (x.l.map V.int)
  mono e := fun ⟨a, h1, h2⟩ => ⟨a, h1, e.l h2⟩
/-- a list or a tuple -/
def SqE (K : Fg) (H : Hp) (a : Addr) (vs : List V) : Prop := SqL K H a vs ∨ SqT K H a vs

theorem al_int {K : Fg} {H : Hp} : forall {vs : List V} {xs : List Int}, Al (rp K H) vs xs -> vs = xs.map V.int
  | [], [], _ => rfl
  | v :: vs, x :: xs, q => by
    have e : v = .int x := q.1
    rw [List.map_cons, ← al_int q.2, e]
  | [], _ :: _, q => q.elim
  | _ :: _, [], q => q.elim
theorem int_al {K : Fg} {H : Hp} : forall (xs : List Int), Al (rp K H) (xs.map V.int) xs
  | [] => trivial
  | _ :: xs => ⟨rfl, int_al xs⟩
theorem al_bl {K : Fg} {H : Hp} : forall {vs : List V} {xs : List Bool}, Al (rp K H) vs xs -> vs = xs.map V.bl
  | [], [], _ => rfl
  | v :: vs, x :: xs, q => by
    have e : v = .bl x := q.1
    rw [List.map_cons, ← al_bl q.2, e]
  | [], _ :: _, q => q.elim
  | _ :: _, [], q => q.elim

/-! the ledger: what may still change -/
abbrev Led := List (Addr × HO)
def Mu : HO -> Prop
  | .lst _ => True
  | .dK _ => True
  | .ext _ => True
  | _ => False
structure At (G H : Hp) (L : Led) : Prop where
  ex : Gx G H
  nd : (L.map (·.1)).Nodup
  led : forall p, p ∈ L -> H p.1 = some p.2 ∧ G p.1 = none ∧ Mu p.2
theorem At.nil (H : Hp) : At H H [] := ⟨Gx.rfl, List.nodup_nil, fun _ h => nomatch h⟩
theorem At.grow {G H H' : Hp} {L : Led} (A : At G H L) (e : Gx H H') : At G H' L := ⟨A.ex.trans e, A.nd, fun p h => let ⟨a, b, c⟩ := A.led p h; ⟨e _ _ a, b, c⟩⟩
def hid (H : Hp) (L : Led) : Hp := fun b => if b ∈ L.map (·.1) then none else H b
theorem hid_in {H : Hp} {L : Led} {b : Addr} (h : b ∈ L.map (·.1)) : hid H L b = none := if_pos h
theorem hid_out {H : Hp} {L : Led} {b : Addr} (h : b ∉ L.map (·.1)) : hid H L b = H b := if_neg h
theorem At.hid {G H : Hp} {L : Led} (A : At G H L) : At (hid H L) H L :=
  ⟨fun a o h => by
    by_cases q : a ∈ L.map (·.1)
    · rw [hid_in q] at h; cases h
    · rw [hid_out q] at h; exact h, A.nd,
   fun p h => ⟨(A.led p h).1, hid_in (List.mem_map_of_mem h), (A.led p h).2.2⟩⟩
theorem At.gh {G H : Hp} {L : Led} (A : At G H L) : Gx G (Pu.hid H L) := fun a o h => by
  have q : a ∉ L.map (·.1) := fun z => by
    obtain ⟨p, hp, e⟩ := List.mem_map.mp z
    rw [← e, (A.led p hp).2.1] at h; cases h
  rw [hid_out q]
  exact A.ex a o h
theorem At.tx {G H : Hp} {L : Led} (A : At G H L) : Tx H (Pu.hid H L) := fun a xs h => by
  have q : a ∉ L.map (·.1) := fun z => by
    obtain ⟨p, hp, e⟩ := List.mem_map.mp z
    obtain ⟨h1, _, h3⟩ := A.led p hp
    rw [e, h] at h1
    rw [← Option.some.inj h1] at h3
    exact h3
  rw [hid_out q]
  exact h
end Pu

set_option Elab.async false
set_option linter.all false
set_option maxRecDepth 100000
namespace Pu
open Pu.Rp (rp)
open PySem PySem.Spec PyProof.Rows L2

def o1 {A C : Type} (f : A -> Option C) (ma : Option A) : Option C := ma.bind f
def o2 {A B C : Type} (f : A -> B -> Option C) (ma : Option A) (mb : Option B) : Option C := ma.bind fun a => mb.bind fun b => f a b
theorem o1s {A C : Type} {f : A -> Option C} {ma : Option A} {c : C} (h : o1 f ma = some c) : exists a, ma = some a ∧ f a = some c := by
  cases ma with
  | none => cases h
  | some a => exact ⟨a, rfl, h⟩
theorem o2s {A B C : Type} {f : A -> B -> Option C} {ma : Option A} {mb : Option B} {c : C} (h : o2 f ma mb = some c) : exists a b, ma = some a ∧ mb = some b ∧ f a b = some c := by
  cases ma with
  | none => cases h
  | some a => cases mb with
    | none => cases h
    | some b => exact ⟨a, b, rfl, rfl, h⟩

/-! what a reading comes to: read (EvB), made (EvO); m none: nothing is said -/
section
variable {K : Fg} {A B C D : Type} [Rp A] [Rp B] [Rp C] [Rp D]
def EvB (K : Fg) (te : TE) (σ : L2.St) (H : Hp) (m : Option A) : Prop :=
  forall x, m = some x -> forall H1, Gx H H1 -> forall Q : VK, (forall v H2, Gx H1 H2 -> rp K H2 v x -> Q v H2) -> te σ H1 Q
def EvO (K : Fg) (te : TE) (σ : L2.St) (G H : Hp) (m : Option A) : Prop :=
  forall x, m = some x -> forall G1 H1 L, Gx G G1 -> Gx H H1 -> At G1 H1 L -> forall Q : VK, (forall v G2 H2, Gx G1 G2 -> Gx H1 H2 -> At G2 H2 L -> rp K G2 v x -> Q v H2) -> te σ H1 Q
def EvT (tt : TT) (σ : L2.St) (H : Hp) (m : Option Bool) : Prop :=
  forall b, m = some b -> forall H1, Gx H H1 -> forall Q : Bool -> Hp -> Prop, (forall H2, Gx H1 H2 -> Q b H2) -> tt σ H1 Q
variable {σ : L2.St} {G G' H H' : Hp} {L : Led} {te ta tb tc : TE} {tt tu : TT}
theorem EvB.mono {m : Option A} (h : EvB K te σ H m) (e : Gx H H') : EvB K te σ H' m := fun x hx H1 e1 Q q => h x hx H1 (e.trans e1) Q q
theorem EvT.mono {m : Option Bool} (h : EvT tt σ H m) (e : Gx H H') : EvT tt σ H' m := fun x hx H1 e1 Q q => h x hx H1 (e.trans e1) Q q
theorem EvO.mono {m : Option A} (h : EvO K te σ G H m) (g : Gx G G') (e : Gx H H') : EvO K te σ G' H' m := fun x hx G1 H1 L g1 e1 a Q q => h x hx G1 H1 L (g.trans g1) (e.trans e1) a Q q
/-- what leans on tuples alone is one's own -/
theorem EvB.own [Im A] {m : Option A} (h : EvB K te σ H m) : EvO K te σ G H m := fun x hx G1 H1 L g1 e1 a Q q =>
  h x hx H1 e1 Q fun v H2 e2 r => q v (hid H2 L) H2 (a.grow e2).gh e2 (a.grow e2).hid (Im.im (a.grow e2).tx r)
theorem EvO.bor {m : Option A} (h : EvO K te σ G H m) (a : At G H L) : EvB K te σ H m := fun x hx H1 e1 Q q =>
  h x hx G H1 L Gx.rfl e1 (a.grow e1) Q fun v G2 H2 _ e2 a2 r => q v H2 e2 (Rp.mono a2.ex r)
theorem EvB.eq {m m' : Option A} (h : EvB K te σ H m) (e : m = m') : EvB K te σ H m' := e ▸ h
theorem EvO.eq {m m' : Option A} (h : EvO K te σ G H m) (e : m = m') : EvO K te σ G H m' := e ▸ h

/-- a new list -/
def EvN (K : Fg) (te : TE) (σ : L2.St) (H : Hp) (m : Option (List A)) : Prop :=
  forall xs, m = some xs -> forall H1, Gx H H1 -> forall Q : VK, (forall p vs H2, H1 p = none -> Gx H1 H2 -> H2 p = some (.lst vs) -> Al (rp K H2) vs xs -> Q (.ref p) H2) -> te σ H1 Q
theorem EvN.mono {m : Option (List A)} (h : EvN K te σ H m) (e : Gx H H') : EvN K te σ H' m := fun x hx H1 e1 Q q => h x hx H1 (e.trans e1) Q q
theorem EvN.b {m : Option (List A)} (h : EvN K te σ H m) : EvB K te σ H m := fun x hx H1 e Q q => h x hx H1 e Q fun p vs H2 hn g h2 r => q (.ref p) H2 g ⟨p, vs, rfl, h2, r⟩
theorem At.fresh {G H : Hp} {L : Led} {p : Addr} (a : At G H L) (hp : H p = none) : p ∉ L.map (·.1) := fun z => by
  obtain ⟨o, ho, e5⟩ := List.mem_map.mp z
  have := (a.led o ho).1
  rw [e5, hp] at this
  cases this
theorem EvN.own [Im A] {m : Option (List A)} (h : EvN K te σ H m) : EvO K te σ G H m := fun x hx G1 H1 L g1 e1 a Q q =>
  h x hx H1 e1 Q fun p vs H2 hn g h2 r => q (.ref p) (hid H2 L) H2 (a.grow g).gh g (a.grow g).hid ⟨p, vs, rfl, (hid_out (a.fresh hn)).trans h2, r.mono fun _ _ => Im.im (a.grow g).tx⟩

/-! names, constants -/
theorem eb_v {i : Nat} {v : V} {x : A} (h : σ[i]? = some (some v)) (r : rp K H v x) : EvB K (tVar i) σ H (some x) := fun y hy H1 e Q q => by
  cases hy
  exact ⟨v, h, q v H1 Gx.rfl (Rp.mono e r)⟩
theorem eo_v {i : Nat} {v : V} {x : A} (h : σ[i]? = some (some v)) (r : rp K G v x) : EvO K (tVar i) σ G H (some x) := fun y hy G1 H1 L g e a Q q => by
  cases hy
  exact ⟨v, h, q v G1 H1 Gx.rfl Gx.rfl a (Rp.mono g r)⟩
theorem eb_c {v : V} {x : A} (r : forall H, rp K H v x) : EvB K (tC v) σ H (some x) := fun y hy H1 e Q q => by
  cases hy
  exact q v H1 Gx.rfl (r _)
theorem eb_int {i : Int} : EvB K (tC (.int i)) σ H (some i) := eb_c fun _ => rfl
theorem eb_bl {i : Bool} : EvB K (tC (.bl i)) σ H (some i) := eb_c fun _ => rfl
theorem eb_str {i : Str} : EvB K (tC (.str i)) σ H (some i) := eb_c fun _ => rfl
theorem eb_non : EvB K (tC .non) σ H (some ()) := eb_c fun _ => rfl

/-! operators by values -/
def RB (K : Fg) (r : R2) (f : A -> B -> Option C) : Prop := forall H x y a b c, rp K H x a -> rp K H y b -> f a b = some c -> forall Q : VK, (forall v H2, Gx H H2 -> rp K H2 v c -> Q v H2) -> r x y H Q
def RB1 (K : Fg) (r : V -> Hp -> VK -> Prop) (f : A -> Option C) : Prop := forall H x a c, rp K H x a -> f a = some c -> forall Q : VK, (forall v H2, Gx H H2 -> rp K H2 v c -> Q v H2) -> r x H Q
theorem eb_op {r : R2} {f : A -> B -> Option C} {ma : Option A} {mb : Option B} (hr : RB K r f) (ha : EvB K ta σ H ma) (hb : EvB K tb σ H mb) : EvB K (tOp r ta tb) σ H (o2 f ma mb) := fun x hx H1 e Q q => by
  obtain ⟨a, b, e1, e2, e3⟩ := o2s hx
  exact ha a e1 H1 e _ fun v H2 g2 r2 => hb b e2 H2 (e.trans g2) _ fun w H3 g3 r3 => hr H3 v w a b x (Rp.mono g3 r2) r3 e3 Q fun z H4 g4 r4 => q z H4 ((g2.trans g3).trans g4) r4
theorem eb_un {r : V -> Hp -> VK -> Prop} {f : A -> Option C} {ma : Option A} (hr : RB1 K r f) (ha : EvB K ta σ H ma) : EvB K (tUn r ta) σ H (o1 f ma) := fun x hx H1 e Q q => by
  obtain ⟨a, e1, e3⟩ := o1s hx
  exact ha a e1 H1 e _ fun v H2 g2 r2 => hr H2 v a x r2 e3 Q fun z H4 g4 r4 => q z H4 (g2.trans g4) r4
theorem rb_I0 {g : Int -> Int -> V} {f : Int -> Int -> C} (h : forall H i j, rp K H (g i j) (f i j)) : RB K (rI0 g) (fun i j => some (f i j)) := fun H x y a b c ra rb hc Q q => by
  cases hc
  exact ⟨a, b, ra, rb, q _ H Gx.rfl (h _ _ _)⟩
theorem rb_I {P : Int -> Int -> Prop} [forall i j, Decidable (P i j)] {R : Int -> Int -> Prop} {g : Int -> Int -> V} {f : Int -> Int -> C} (hP : forall i j, P i j -> R i j) (h : forall H i j, P i j -> rp K H (g i j) (f i j)) : RB K (rI R g) (fun i j => if P i j then some (f i j) else none) := fun H x y a b c ra rb hc Q q => by
  by_cases p : P a b
  · simp only [if_pos p] at hc
    cases hc
    exact ⟨a, b, ra, rb, hP _ _ p, q _ H Gx.rfl (h _ _ _ p)⟩
  · simp only [if_neg p] at hc; cases hc
theorem rb_add : RB (A := Int) (B := Int) (C := Int) K (rI0 fun i j => .int (i + j)) (fun i j => some (i + j)) := rb_I0 fun _ _ _ => rfl
theorem rb_sub : RB (A := Int) (B := Int) (C := Int) K (rI0 fun i j => .int (i - j)) (fun i j => some (i - j)) := rb_I0 fun _ _ _ => rfl
theorem rb_lt : RB (A := Int) (B := Int) (C := Bool) K (rI0 fun i j => .bl (decide (i < j))) (fun i j => some (decide (i < j))) := rb_I0 fun _ _ _ => rfl
theorem rb_le : RB (A := Int) (B := Int) (C := Bool) K (rI0 fun i j => .bl (decide (i ≤ j))) (fun i j => some (decide (i ≤ j))) := rb_I0 fun _ _ _ => rfl
theorem rb_gt : RB (A := Int) (B := Int) (C := Bool) K (rI0 fun i j => .bl (decide (j < i))) (fun i j => some (decide (j < i))) := rb_I0 fun _ _ _ => rfl
theorem rb_ge : RB (A := Int) (B := Int) (C := Bool) K (rI0 fun i j => .bl (decide (j ≤ i))) (fun i j => some (decide (j ≤ i))) := rb_I0 fun _ _ _ => rfl
/-- one side within 2 ^ 64 -/
def mulOk (i j : Int) : Bool := (decide (-(2 ^ 64) < i) && decide (i < 2 ^ 64)) || (decide (-(2 ^ 64) < j) && decide (j < 2 ^ 64))
theorem rb_mul : RB (A := Int) (B := Int) (C := Int) K (rI CMul fun i j => .int (i * j)) (fun i j => if mulOk i j = true then some (i * j) else none) :=
  rb_I (fun i j h => by
    unfold mulOk at h
    simp only [Bool.or_eq_true, Bool.and_eq_true, decide_eq_true_eq] at h
    exact h) fun _ _ _ _ => rfl
end
end Pu

set_option Elab.async false
set_option linter.all false
set_option maxRecDepth 100000
namespace Pu
open Pu.Rp (rp)
open PySem PySem.Spec PyProof.Rows L2
section
variable {K : Fg} {A B C D : Type} [Rp A] [Rp B] [Rp C] [Rp D]
variable {σ : L2.St} {G G' H H' : Hp} {L : Led} {te ta tb tc : TE} {tt tu : TT}
theorem rb_fdiv : RB (A := Int) (B := Int) (C := Int) K (rI CDiv fun i j => .int (i / j)) (fun i j => if 0 < j ∧ j < 1073741824 then some (i / j) else none) :=
  rb_I (fun i j h => h) fun _ _ _ _ => rfl
theorem rb_mod : RB (A := Int) (B := Int) (C := Int) K (rI (fun _ j => 0 < j) fun i j => .int (i % j)) (fun i j => if 0 < j then some (i % j) else none) :=
  rb_I (fun i j h => h) fun _ _ _ _ => rfl
def powOk (i j : Int) : Bool := decide (0 ≤ j) && decide (j ≤ 1000000) && decide (i.natAbs < 18446744073709551616)
theorem rb_pow : RB (A := Int) (B := Int) (C := Int) K (rI CPow fun i j => .int (i ^ j.toNat)) (fun i j => if powOk i j = true then some (i ^ j.toNat) else none) :=
  rb_I (fun i j h => by
    unfold powOk at h
    simp only [Bool.and_eq_true, decide_eq_true_eq] at h
    exact ⟨h.1.1, h.1.2, h.2⟩) fun _ _ _ _ => rfl
theorem rb_neg : RB1 (A := Int) (C := Int) K (rU fun i => .int (-i)) (fun i => some (-i)) := fun H x a c ra hc Q q => by
  cases hc
  exact ⟨a, ra, q _ H Gx.rfl rfl⟩

/-! == -/
class Eqd (A : Type) [Rp A] [DecidableEq A] where
  enc : A -> PyData
  dp : forall {K : Fg} {H : Hp} {v : V} {x : A}, rp K H v x -> Dp K H v (enc x)
  lay : forall x : A, (enc x).canLay0 = true
  dep : Nat
  deep : forall x : A, (enc x).depth ≤ dep
  eqv : forall x y : A, PyData.eqv (enc x) (enc y) = decide (x = y)
instance : Eqd Int where
  enc := .int
  dp h := by cases h; exact .int _
  lay _ := by simp [PyData.canLay0]
  dep := 0
  deep _ := by simp [PyData.depth]
  eqv x y := by
    rw [PyData.eqv]
    by_cases h : x = y <;> simp [h]
instance : Eqd Bool where
  enc := .bool
  dp h := by cases h; exact .bl _
  lay _ := by simp [PyData.canLay0]
  dep := 0
  deep _ := by simp [PyData.depth]
  eqv x y := by
    rw [PyData.eqv]
    cases x <;> cases y <;> rfl
instance : Eqd Unit where
  enc _ := .none
  dp h := by cases h; exact .non
  lay _ := by simp [PyData.canLay0]
  dep := 0
  deep _ := by simp [PyData.depth]
  eqv x y := by
    rw [PyData.eqv]
    cases x; cases y; rfl
section
variable [DecidableEq A] [DecidableEq B] [Eqd A] [Eqd B]
instance : Eqd (A × B) where
  enc x := .tuple [Eqd.enc x.1, Eqd.enc x.2]
  dp h := by
    obtain ⟨a, u, w, rfl, h2, h3, h4⟩ := h
    exact .tup (SqT.of h2) (.cons (Eqd.dp h3) (.cons (Eqd.dp h4) .nil))
  lay x := by simp [PyData.canLay0, PyData.canLayAll0, Eqd.lay]
  dep := max (Eqd.dep A) (Eqd.dep B) + 1
  deep x := by
    have h1 := Eqd.deep x.1
    have h2 := Eqd.deep x.2
    simp only [PyData.depth, PyData.depthAll]
    omega
  eqv x y := by
    rw [PyData.eqv, PyData.eqvAll, PyData.eqvAll, PyData.eqvAll, Eqd.eqv, Eqd.eqv, Bool.and_true]
    cases x; cases y
    simp
theorem al_dp {K : Fg} {H : Hp} : forall {vs : List V} {xs : List A}, Al (rp K H) vs xs -> DpAll K H vs (xs.map Eqd.enc)
  | [], [], _ => .nil
  | _ :: _, _ :: _, q => .cons (Eqd.dp q.1) (al_dp q.2)
  | [], _ :: _, q => q.elim
  | _ :: _, [], q => q.elim
theorem lay_all : forall xs : List A, PyData.canLayAll0 (xs.map Eqd.enc) = true
  | [] => by simp [PyData.canLayAll0]
  | x :: xs => by
    have ih := lay_all xs
    simp [PyData.canLayAll0, Eqd.lay, ih]
theorem deep_all : forall xs : List A, PyData.depthAll (xs.map Eqd.enc) ≤ Eqd.dep A
  | [] => by simp [PyData.depthAll]
  | x :: xs => by
    have ih := deep_all xs
    have h := Eqd.deep x
    simp only [List.map_cons, PyData.depthAll]
    omega
theorem eqv_all : forall xs ys : List A, PyData.eqvAll (xs.map Eqd.enc) (ys.map Eqd.enc) = decide (xs = ys)
  | [], [] => by simp [PyData.eqvAll]
  | [], _ :: _ => by simp [PyData.eqvAll]
  | _ :: _, [] => by simp [PyData.eqvAll]
  | x :: xs, y :: ys => by
    have ih := eqv_all xs ys
    rw [List.map_cons, List.map_cons, PyData.eqvAll, Eqd.eqv, ih]
    simp
instance : Eqd (List A) where
  enc x := .list (x.map Eqd.enc)
  dp h := by
    obtain ⟨a, vs, rfl, h2, h3⟩ := h
    exact .lst (SqL.of h2) (al_dp h3)
  lay x := by
    rw [PyData.canLay0]
    exact lay_all x
  dep := Eqd.dep A + 1
  deep x := by
    have h := deep_all x
    simp only [PyData.depth]
    omega
  eqv x y := by
    rw [PyData.eqv]
    exact eqv_all x y
instance : Eqd (Tl A) where
  enc x := .tuple (x.l.map Eqd.enc)
  dp h := by
    obtain ⟨a, vs, rfl, h2, h3⟩ := h
    exact .tup (SqT.of h2) (al_dp h3)
  lay x := by
    rw [PyData.canLay0]
    exact lay_all x.l
  dep := Eqd.dep A + 1
  deep x := by
    have h := deep_all x.l
    simp only [PyData.depth]
    omega
  eqv x y := by
    rw [PyData.eqv, eqv_all]
    cases x; cases y
    simp
theorem shaped_enc (h : Eqd.dep A ≤ 64) (x : A) : SeqAt.shaped (Eqd.enc x) = true := by
  unfold SeqAt.shaped
  rw [Eqd.lay, Bool.true_and]
  exact decide_eq_true (Nat.le_trans (Eqd.deep x) h)
theorem rb_eq (h : Eqd.dep A ≤ 64 := by decide) : RB (A := A) (B := A) (C := Bool) K (rEqD K) (fun a b => some (decide (a = b))) := fun H x y a b c ra rb hc Q q => by
  cases hc
  refine ⟨_, _, Eqd.dp ra, Eqd.dp rb, shaped_enc h a, shaped_enc h b, ?_⟩
  rw [Eqd.eqv]
  exact q _ H Gx.rfl rfl
theorem rb_ne (h : Eqd.dep A ≤ 64 := by decide) : RB (A := A) (B := A) (C := Bool) K (rNeD K) (fun a b => some (!decide (a = b))) := fun H x y a b c ra rb hc Q q => by
  cases hc
  refine ⟨_, _, Eqd.dp ra, Eqd.dp rb, shaped_enc h a, shaped_enc h b, ?_⟩
  rw [Eqd.eqv]
  exact q _ H Gx.rfl rfl
end

/-! items, slices -/
def ix {A : Type} (xs : List A) (i : Int) : Option A := atI xs i
theorem ixN_lt {n : Nat} {i : Int} {j : Nat} (h : ixN n i = some j) : j < n := by
  unfold ixN at h
  split at h
  · split at h
    · cases h; omega
    · cases h
  · split at h
    · cases h; omega
    · cases h
theorem al_at {A : Type} {F : V -> A -> Prop} {vs : List V} {xs : List A} {i : Int} {x : A} (q : Al F vs xs) (h : ix xs i = some x) : exists v, atI vs i = some v ∧ F v x := by
  unfold ix atI at h
  cases e : ixN xs.length i with
  | none => rw [e] at h; cases h
  | some j =>
    rw [e] at h
    obtain ⟨v, h1, h2⟩ := q.get (i := j) h
    refine ⟨v, ?_, h2⟩
    unfold atI
    rw [q.len, e]
    exact h1
theorem rb_ixL : RB (A := List A) (B := Int) (C := A) K (rIxL K) ix := fun H x y a b c ra rb hc Q q => by
  obtain ⟨p, vs, rfl, h2, h3⟩ := ra
  obtain ⟨v, h4, h5⟩ := al_at h3 hc
  exact ⟨p, vs, b, v, rfl, rb, SqL.of h2, h4, q v H Gx.rfl h5⟩
theorem rb_ixT : RB (A := Tl A) (B := Int) (C := A) K (rIxT K) (fun a b => ix a.l b) := fun H x y a b c ra rb hc Q q => by
  obtain ⟨p, vs, rfl, h2, h3⟩ := ra
  obtain ⟨v, h4, h5⟩ := al_at h3 hc
  exact ⟨p, vs, b, v, rfl, rb, SqT.of h2, h4, q v H Gx.rfl h5⟩
/-- p[0], p[1] of a pair -/
theorem eb_fst {ma : Option (A × B)} {i : Int} (hi : i = 0) (ha : EvB K ta σ H ma) : EvB K (tOp (rIxT K) ta (tC (.int i))) σ H (o1 (fun x => some x.1) ma) := fun x hx H1 e Q q => by
  obtain ⟨a, e1, e3⟩ := o1s hx
  cases e3
  subst hi
  refine ha a e1 H1 e _ fun v H2 g2 r2 => ?_
  obtain ⟨p, u, w, rfl, h2, h3, h4⟩ := r2
  exact ⟨p, _, 0, u, rfl, rfl, SqT.of h2, rfl, q u H2 g2 h3⟩
theorem eb_snd {ma : Option (A × B)} {i : Int} (hi : i = 1) (ha : EvB K ta σ H ma) : EvB K (tOp (rIxT K) ta (tC (.int i))) σ H (o1 (fun x => some x.2) ma) := fun x hx H1 e Q q => by
  obtain ⟨a, e1, e3⟩ := o1s hx
  cases e3
  subst hi
  refine ha a e1 H1 e _ fun v H2 g2 r2 => ?_
  obtain ⟨p, u, w, rfl, h2, h3, h4⟩ := r2
  exact ⟨p, _, 1, w, rfl, rfl, SqT.of h2, rfl, q w H2 g2 h4⟩

/-! tests -/
theorem et_b {m : Option Bool} (h : EvB K te σ H m) : EvT (tB te) σ H m := fun b hb H1 e Q q => h b hb H1 e _ fun v H2 g r => ⟨b, r, q H2 g⟩
theorem et_test {m : Option Bool} (h : EvB K te σ H m) : EvT (tTest te) σ H m := fun b hb H1 e Q q => h b hb H1 e _ fun v H2 g r => ⟨b, r, q H2 g⟩
def oAnd (ma mb : Option Bool) : Option Bool := ma.bind fun a => if a = true then mb else some false
def oOr (ma mb : Option Bool) : Option Bool := ma.bind fun a => if a = true then some true else mb
def oNot (ma : Option Bool) : Option Bool := ma.bind fun a => some (!a)
def oIf {A : Type} (mc : Option Bool) (ma mb : Option A) : Option A := mc.bind fun c => if c = true then ma else mb
theorem ite_tt {P Q : Prop} (h : P) : if true = true then P else Q := by rw [if_pos rfl]; exact h
theorem ite_ff {P Q : Prop} (h : Q) : if false = true then P else Q := by rw [if_neg Bool.false_ne_true]; exact h
theorem et_and {ma mb : Option Bool} (ha : EvT tt σ H ma) (hb : EvT tu σ H mb) : EvT (tAnd tt tu) σ H (oAnd ma mb) := fun b hx H1 e Q q => by
  cases ma with
  | none => cases hx
  | some a =>
    refine ha a rfl H1 e _ fun H2 g2 => ?_
    cases a with
    | true => exact ite_tt (hb b hx H2 (e.trans g2) Q fun H3 g3 => q H3 (g2.trans g3))
    | false => cases hx; exact ite_ff (q H2 g2)
theorem et_or {ma mb : Option Bool} (ha : EvT tt σ H ma) (hb : EvT tu σ H mb) : EvT (tOr tt tu) σ H (oOr ma mb) := fun b hx H1 e Q q => by
  cases ma with
  | none => cases hx
  | some a =>
    refine ha a rfl H1 e _ fun H2 g2 => ?_
    cases a with
    | true => cases hx; exact ite_tt (q H2 g2)
    | false => exact ite_ff (hb b hx H2 (e.trans g2) Q fun H3 g3 => q H3 (g2.trans g3))
theorem et_not {ma : Option Bool} (ha : EvT tt σ H ma) : EvT (tNot tt) σ H (oNot ma) := fun b hx H1 e Q q => by
  cases ma with
  | none => cases hx
  | some a =>
    cases hx
    exact ha a rfl H1 e _ fun H2 g2 => q H2 g2
theorem eb_and {ma mb : Option Bool} (ha : EvB K ta σ H ma) (hb : EvB K tb σ H mb) : EvB K (tAndV ta tb) σ H (oAnd ma mb) := fun b hx H1 e Q q => by
  cases ma with
  | none => cases hx
  | some a =>
    refine ha a rfl H1 e _ fun v H2 g2 r => ⟨a, r, ?_⟩
    cases a with
    | true => exact ite_tt (hb b hx H2 (e.trans g2) Q fun v H3 g3 r3 => q v H3 (g2.trans g3) r3)
    | false => cases hx; exact ite_ff (q _ H2 g2 rfl)
theorem eb_or {ma mb : Option Bool} (ha : EvB K ta σ H ma) (hb : EvB K tb σ H mb) : EvB K (tOrV ta tb) σ H (oOr ma mb) := fun b hx H1 e Q q => by
  cases ma with
  | none => cases hx
  | some a =>
    refine ha a rfl H1 e _ fun v H2 g2 r => ⟨a, r, ?_⟩
    cases a with
    | true => cases hx; exact ite_tt (q _ H2 g2 rfl)
    | false => exact ite_ff (hb b hx H2 (e.trans g2) Q fun v H3 g3 r3 => q v H3 (g2.trans g3) r3)
theorem eb_not {ma : Option Bool} (ha : EvB K ta σ H ma) : EvB K (tNotV ta) σ H (oNot ma) := fun b hx H1 e Q q => by
  cases ma with
  | none => cases hx
  | some a =>
    cases hx
    exact ha a rfl H1 e _ fun v H2 g2 r => ⟨a, r, q _ H2 g2 rfl⟩
theorem eb_if {mc : Option Bool} {ma mb : Option A} (hc : EvT tt σ H mc) (ha : EvB K ta σ H ma) (hb : EvB K tb σ H mb) : EvB K (tIf tt ta tb) σ H (oIf mc ma mb) := fun x hx H1 e Q q => by
  cases mc with
  | none => cases hx
  | some c =>
    refine hc c rfl H1 e _ fun H2 g2 => ?_
    cases c with
    | true => exact ite_tt (ha x hx H2 (e.trans g2) Q fun v H3 g3 r3 => q v H3 (g2.trans g3) r3)
    | false => exact ite_ff (hb x hx H2 (e.trans g2) Q fun v H3 g3 r3 => q v H3 (g2.trans g3) r3)
/-- a chain of two comparisons -/
theorem eb_chain {r r' : R2} {f : A -> B -> Option Bool} {g : B -> C -> Option Bool} {ma : Option A} {mb : Option B} {mc : Option C} (hr : RB K r f) (hr' : RB K r' g) (ha : EvB K ta σ H ma) (hb : EvB K tb σ H mb) (hc : EvB K tc σ H mc) :
    EvB K (tChain r r' ta tb tc) σ H (ma.bind fun a => mb.bind fun b => (f a b).bind fun k => if k = true then mc.bind fun c => g b c else some false) := fun x hx H1 e Q q => by
  cases ma with
  | none => cases hx
  | some a => cases mb with
    | none => cases hx
    | some b =>
      have hx' : ((f a b).bind fun k => if k = true then mc.bind fun c => g b c else some false) = some x := hx
      refine ha a rfl H1 e _ fun v H2 g2 r2 => hb b rfl H2 (e.trans g2) _ fun w H3 g3 r3 => ?_
      cases hf : f a b with
      | none => rw [hf] at hx'; cases hx'
      | some k =>
        rw [hf] at hx'
        refine hr H3 v w a b k (Rp.mono g3 r2) r3 hf _ fun z H4 g4 r4 => ⟨k, r4, ?_⟩
        cases k with
        | true =>
          cases mc with
          | none => cases hx'
          | some c =>
            refine ite_tt (hc c rfl H4 (((e.trans g2).trans g3).trans g4) _ fun u H5 g5 r5 => hr' H5 w u b c x (Rp.mono (g4.trans g5) r3) r5 hx' Q fun o H6 g6 r6 => q o H6 ((((g2.trans g3).trans g4).trans g5).trans g6) r6)
        | false =>
          cases hx'
          exact ite_ff (q _ H4 ((g2.trans g3).trans g4) rfl)

/-! argument lists -/
theorem call1 {r : List V -> Hp -> VK -> Prop} {ma : Option A} {f : A -> Option C} (h : forall H v x c, rp K H v x -> f x = some c -> forall Q : VK, (forall z H2, Gx H H2 -> rp K H2 z c -> Q z H2) -> r [v] H Q) (ha : EvB K ta σ H ma) :
    EvB K (tCB r (tCons ta tNil)) σ H (o1 f ma) := fun x hx H1 e Q q => by
  obtain ⟨a, e1, e3⟩ := o1s hx
  exact ha a e1 H1 e _ fun v H2 g2 r2 => h H2 v a x r2 e3 Q fun z H3 g3 r3 => q z H3 (g2.trans g3) r3
theorem call2 {r : List V -> Hp -> VK -> Prop} {ma : Option A} {mb : Option B} {f : A -> B -> Option C} (h : forall H v w x y c, rp K H v x -> rp K H w y -> f x y = some c -> forall Q : VK, (forall z H2, Gx H H2 -> rp K H2 z c -> Q z H2) -> r [v, w] H Q) (ha : EvB K ta σ H ma) (hb : EvB K tb σ H mb) :
    EvB K (tCB r (tCons ta (tCons tb tNil))) σ H (o2 f ma mb) := fun x hx H1 e Q q => by
  obtain ⟨a, b, e1, e2, e3⟩ := o2s hx
  exact ha a e1 H1 e _ fun v H2 g2 r2 => hb b e2 H2 (e.trans g2) _ fun w H3 g3 r3 => h H3 v w a b x (Rp.mono g3 r2) r3 e3 Q fun z H4 g4 r4 => q z H4 ((g2.trans g3).trans g4) r4
/-- a call that makes a list -/
theorem call1L {r : List V -> Hp -> VK -> Prop} {ma : Option A} {f : A -> Option (List C)} (h : forall H v x c, rp K H v x -> f x = some c -> forall Q : VK, (forall p vs, H p = none -> Al (rp K H) vs c -> Q (.ref p) (upd H p (.lst vs))) -> r [v] H Q) (ha : EvB K ta σ H ma) :
    EvN K (tCB r (tCons ta tNil)) σ H (o1 f ma) := fun x hx H1 e Q q => by
  obtain ⟨a, e1, e3⟩ := o1s hx
  exact ha a e1 H1 e _ fun v H2 g2 r2 => h H2 v a x r2 e3 Q fun p vs hp r3 => q p vs _ (g2.back hp) (g2.trans (Gx.new hp)) upd_same (r3.mono fun _ _ => Rp.mono (Gx.new hp))
end
end Pu

set_option Elab.async false
set_option linter.all false
set_option maxRecDepth 100000
namespace Pu
open Pu.Rp (rp)
open PySem PySem.Spec PyProof.Rows L2
section
variable {K : Fg} {A B C D : Type} [Rp A] [Rp B] [Rp C] [Rp D]
variable {σ : L2.St} {G G' H H' : Hp} {L : Led} {te ta tb tc : TE} {tt tu : TT}

/-! built-in calls -/
theorem eb_lenL {ma : Option (List A)} (ha : EvB K ta σ H ma) : EvB K (tCB (fun xs H Q => ∃ p ys, xs = [.ref p] ∧ (SqL K H p ys ∨ SqT K H p ys) ∧ Q (.int ys.length) H) (tCons ta tNil)) σ H (o1 (fun x => some (x.length : Int)) ma) :=
  call1 (fun H v x c r hc Q q => by
    cases hc
    obtain ⟨p, vs, rfl, h2, h3⟩ := r
    refine ⟨p, vs, rfl, .inl (SqL.of h2), ?_⟩
    rw [h3.len]
    exact q _ H Gx.rfl rfl) ha
theorem eb_lenT {ma : Option (Tl A)} (ha : EvB K ta σ H ma) : EvB K (tCB (fun xs H Q => ∃ p ys, xs = [.ref p] ∧ (SqL K H p ys ∨ SqT K H p ys) ∧ Q (.int ys.length) H) (tCons ta tNil)) σ H (o1 (fun x => some (x.l.length : Int)) ma) :=
  call1 (fun H v x c r hc Q q => by
    cases hc
    obtain ⟨p, vs, rfl, h2, h3⟩ := r
    refine ⟨p, vs, rfl, .inr (SqT.of h2), ?_⟩
    rw [h3.len]
    exact q _ H Gx.rfl rfl) ha
def imax (i j : Int) : Int := if j > i then j else i
def imin (i j : Int) : Int := if j < i then j else i
theorem eb_max2 {ma mb : Option Int} (ha : EvB K ta σ H ma) (hb : EvB K tb σ H mb) : EvB K (tCB (fun xs H Q => ∃ i j, xs = [.int i, .int j] ∧ Q (.int (if j > i then j else i)) H) (tCons ta (tCons tb tNil))) σ H (o2 (fun i j => some (imax i j)) ma mb) :=
  call2 (fun H v w x y c r1 r2 hc Q q => by
    cases hc; cases r1; cases r2
    exact ⟨x, y, rfl, q _ H Gx.rfl rfl⟩) ha hb
theorem eb_min2 {ma mb : Option Int} (ha : EvB K ta σ H ma) (hb : EvB K tb σ H mb) : EvB K (tCB (fun xs H Q => ∃ i j, xs = [.int i, .int j] ∧ Q (.int (if j < i then j else i)) H) (tCons ta (tCons tb tNil))) σ H (o2 (fun i j => some (imin i j)) ma mb) :=
  call2 (fun H v w x y c r1 r2 hc Q q => by
    cases hc; cases r1; cases r2
    exact ⟨x, y, rfl, q _ H Gx.rfl rfl⟩) ha hb
theorem eb_sum {ma : Option (List Int)} (ha : EvB K ta σ H ma) : EvB K (tCB (rSum K) (tCons ta tNil)) σ H (o1 (fun x => some x.sum) ma) :=
  call1 (fun H v x c r hc Q q => by
    cases hc
    obtain ⟨p, vs, rfl, h2, h3⟩ := r
    rw [al_int h3] at h2
    exact ⟨p, x, rfl, SqL.of h2, q _ H Gx.rfl rfl⟩) ha
theorem eb_any {ma : Option (List Bool)} (ha : EvB K ta σ H ma) : EvB K (tCB (rAny K) (tCons ta tNil)) σ H (o1 (fun x => some (x.any id)) ma) :=
  call1 (fun H v x c r hc Q q => by
    cases hc
    obtain ⟨p, vs, rfl, h2, h3⟩ := r
    rw [al_bl h3] at h2
    exact ⟨p, x, rfl, SqL.of h2, q _ H Gx.rfl rfl⟩) ha
theorem eb_all {ma : Option (List Bool)} (ha : EvB K ta σ H ma) : EvB K (tCB (rAll K) (tCons ta tNil)) σ H (o1 (fun x => some (x.all id)) ma) :=
  call1 (fun H v x c r hc Q q => by
    cases hc
    obtain ⟨p, vs, rfl, h2, h3⟩ := r
    rw [al_bl h3] at h2
    exact ⟨p, x, rfl, SqL.of h2, q _ H Gx.rfl rfl⟩) ha
/-- the rising list of a list of ints -/
def isort (x : List Int) : List Int := x.mergeSort (fun a b => decide (a ≤ b))
theorem isort_perm (x : List Int) : (isort x).Perm x := List.mergeSort_perm _ _
theorem isort_le (x : List Int) : (isort x).Pairwise (· ≤ ·) := by
  have h := List.pairwise_mergeSort (le := fun a b : Int => decide (a ≤ b)) (fun a b c h1 h2 => by simp only [decide_eq_true_eq] at *; omega) (fun a b => by simp only [Bool.or_eq_true, decide_eq_true_eq]; omega) x
  exact h.imp fun h => by simpa using h
theorem pw_uniq : forall {xs ys : List Int}, xs.Perm ys -> xs.Pairwise (· ≤ ·) -> ys.Pairwise (· ≤ ·) -> xs = ys := fun {xs ys} p h1 h2 =>
  p.eq_of_pairwise (fun a b _ _ h h' => Int.le_antisymm h h') h1 h2
theorem en_sorted {ma : Option (List Int)} (ha : EvB K ta σ H ma) : EvN K (tCB (rSortedI K) (tCons ta tNil)) σ H (o1 (fun x => some (isort x)) ma) :=
  call1L (fun H v x c r hc Q q => by
    cases hc
    obtain ⟨p, vs, rfl, h2, h3⟩ := r
    rw [al_int h3] at h2
    refine ⟨p, x, rfl, SqL.of h2, fun ns p' hp1 hp2 hn => ?_⟩
    rw [pw_uniq (hp1.trans (isort_perm x).symm) hp2 (isort_le x)]
    exact q p' _ hn (int_al _)) ha
theorem en_list {ma : Option (List A)} (ha : EvB K ta σ H ma) : EvN K (tCB (fun xs H Q => ∃ p ys, xs = [.ref p] ∧ (SqL K H p ys ∨ SqT K H p ys) ∧ ∀ l, H l = none → Q (.ref l) (upd H l (.lst ys))) (tCons ta tNil)) σ H (o1 (fun x => some x) ma) :=
  call1L (fun H v x c r hc Q q => by
    cases hc
    obtain ⟨p, vs, rfl, h2, h3⟩ := r
    exact ⟨p, vs, rfl, .inl (SqL.of h2), fun l hl => q l vs hl h3⟩) ha
theorem en_listT {ma : Option (Tl A)} (ha : EvB K ta σ H ma) : EvN K (tCB (fun xs H Q => ∃ p ys, xs = [.ref p] ∧ (SqL K H p ys ∨ SqT K H p ys) ∧ ∀ l, H l = none → Q (.ref l) (upd H l (.lst ys))) (tCons ta tNil)) σ H (o1 (fun x => some x.l) ma) :=
  call1L (fun H v x c r hc Q q => by
    cases hc
    obtain ⟨p, vs, rfl, h2, h3⟩ := r
    exact ⟨p, vs, rfl, .inr (SqT.of h2), fun l hl => q l vs hl h3⟩) ha
theorem eb_tuple {ma : Option (List A)} (ha : EvB K ta σ H ma) : EvB K (tCB (fun xs H Q => ∃ p ys, xs = [.ref p] ∧ ((SqL K H p ys ∧ ∀ l, H l = none → Q (.ref l) (upd H l (.tup ys))) ∨ (SqT K H p ys ∧ Q (.ref p) H))) (tCons ta tNil)) σ H (o1 (fun x => some (Tl.mk x)) ma) :=
  call1 (fun H v x c r hc Q q => by
    cases hc
    obtain ⟨p, vs, rfl, h2, h3⟩ := r
    exact ⟨p, vs, rfl, .inl ⟨SqL.of h2, fun l hl => q _ _ (Gx.new hl) ⟨l, vs, rfl, upd_same, h3.mono fun _ _ => Rp.mono (Gx.new hl)⟩⟩⟩) ha

/-! displays -/
theorem eb_tup2 {ma : Option A} {mb : Option B} (ha : EvB K ta σ H ma) (hb : EvB K tb σ H mb) : EvB K (tTup (tCons ta (tCons tb tNil))) σ H (o2 (fun a b => some (a, b)) ma mb) := fun x hx H1 e Q q => by
  obtain ⟨a, b, e1, e2, e3⟩ := o2s hx
  cases e3
  refine ha a e1 H1 e _ fun v H2 g2 r2 => hb b e2 H2 (e.trans g2) _ fun w H3 g3 r3 => ⟨by show 2 ≤ sizeLine; decide, fun p hp => ?_⟩
  exact q _ _ ((g2.trans g3).trans (Gx.new hp)) ⟨p, v, w, rfl, upd_same, Rp.mono (g3.trans (Gx.new hp)) r2, Rp.mono (Gx.new hp) r3⟩
theorem eb_tup3 {ma : Option A} {mb : Option B} {mc : Option C} (ha : EvB K ta σ H ma) (hb : EvB K tb σ H mb) (hc : EvB K tc σ H mc) : EvB K (tTup (tCons ta (tCons tb (tCons tc tNil)))) σ H (ma.bind fun a => mb.bind fun b => mc.bind fun c => some (T3.mk a b c)) := fun x hx H1 e Q q => by
  cases ma with
  | none => cases hx
  | some a => cases mb with
    | none => cases hx
    | some b => cases mc with
      | none => cases hx
      | some c =>
        cases hx
        refine ha a rfl H1 e _ fun v H2 g2 r2 => hb b rfl H2 (e.trans g2) _ fun w H3 g3 r3 => hc c rfl H3 ((e.trans g2).trans g3) _ fun z H4 g4 r4 => ⟨by show 3 ≤ sizeLine; decide, fun p hp => ?_⟩
        exact q _ _ (((g2.trans g3).trans g4).trans (Gx.new hp)) ⟨p, v, w, z, rfl, upd_same, Rp.mono ((g3.trans g4).trans (Gx.new hp)) r2, Rp.mono (g4.trans (Gx.new hp)) r3, Rp.mono (Gx.new hp) r4⟩
/-- some expressions of one kind, from the left -/
def EvL (K : Fg) (ta : TA) (σ : L2.St) (H : Hp) (m : Option (List A)) : Prop :=
  forall xs, m = some xs -> forall H1, Gx H H1 -> forall Q : List V -> Hp -> Prop, (forall vs H2, Gx H1 H2 -> Al (rp K H2) vs xs -> Q vs H2) -> ta σ H1 Q
theorem el_nil : EvL (A := A) K tNil σ H (some []) := fun xs hx H1 e Q q => by
  cases hx
  exact q [] H1 Gx.rfl trivial
theorem el_cons {tr : TA} {ma : Option A} {mr : Option (List A)} (ha : EvB K ta σ H ma) (hr : EvL K tr σ H mr) : EvL K (tCons ta tr) σ H (o2 (fun a r => some (a :: r)) ma mr) := fun xs hx H1 e Q q => by
  obtain ⟨a, b, e1, e2, e3⟩ := o2s hx
  cases e3
  exact ha a e1 H1 e _ fun v H2 g2 r2 => hr b e2 H2 (e.trans g2) _ fun vs H3 g3 r3 => q (v :: vs) H3 (g2.trans g3) ⟨Rp.mono g3 r2, r3⟩
def szOk {A : Type} (xs : List A) : Option (List A) := if xs.length ≤ 100000 then some xs else none
theorem szOks {A : Type} {xs ys : List A} (h : szOk xs = some ys) : ys = xs ∧ xs.length ≤ 100000 := by
  unfold szOk at h
  split at h
  · cases h; exact ⟨rfl, by assumption⟩
  · cases h
theorem eb_tupl {tr : TA} {mr : Option (List A)} (h : EvL K tr σ H mr) : EvB K (tTup tr) σ H (o1 (fun x => (szOk x).map Tl.mk) mr) := fun x hx H1 e Q q => by
  obtain ⟨a, e1, e3⟩ := o1s hx
  obtain ⟨b, e4, e5⟩ := Option.map_eq_some_iff.mp e3
  obtain ⟨rfl, hz⟩ := szOks e4
  subst e5
  refine h b e1 H1 e _ fun vs H2 g2 r2 => ⟨by rw [r2.len]; exact Evl.sz_of hz, fun p hp => q _ _ (g2.trans (Gx.new hp)) ⟨p, vs, rfl, upd_same, r2.mono fun _ _ => Rp.mono (Gx.new hp)⟩⟩
theorem en_lst {tr : TA} {mr : Option (List A)} (h : EvL K tr σ H mr) : EvN K (tLst tr) σ H (o1 szOk mr) := fun x hx H1 e Q q => by
  obtain ⟨a, e1, e3⟩ := o1s hx
  obtain ⟨rfl, hz⟩ := szOks e3
  exact h x e1 H1 e _ fun vs H2 g2 r2 => ⟨by rw [r2.len]; exact Evl.sz_of hz, fun p hp => q p vs _ (g2.back hp) (g2.trans (Gx.new hp)) upd_same (r2.mono fun _ _ => Rp.mono (Gx.new hp))⟩

/-! slices -/
def EvP (to : TO) (σ : L2.St) (H : Hp) (m : Option (Option Int)) : Prop := forall o, m = some o -> forall H1, Gx H H1 -> forall Q : Option Int -> Hp -> Prop, (forall H2, Gx H1 H2 -> Q o H2) -> to σ H1 Q
theorem ep_none : EvP tNoPart σ H (some none) := fun o ho H1 e Q q => by
  cases ho
  exact q H1 Gx.rfl
theorem ep_some {m : Option Int} (h : EvB K te σ H m) : EvP (tPart te) σ H (m.map some) := fun o ho H1 e Q q => by
  obtain ⟨a, e1, e2⟩ := Option.map_eq_some_iff.mp ho
  subst e2
  exact h a e1 H1 e _ fun v H2 g r => ⟨a, r, q H2 g⟩
def cutM {A : Type} (xs : List A) (lo hi : Option Int) : List A := (xs.drop (HT.sIx xs.length 0 lo)).take (HT.sIx xs.length xs.length hi - HT.sIx xs.length 0 lo)
theorem al_cut {A : Type} {F : V -> A -> Prop} {vs : List V} {xs : List A} {lo hi : Option Int} (q : Al F vs xs) : Al F (cutV vs lo hi) (cutM xs lo hi) := by
  unfold cutV cutM
  rw [q.len]
  exact (q.drop _).take _
def o3 {A B C D : Type} (f : A -> B -> C -> Option D) (ma : Option A) (mb : Option B) (mc : Option C) : Option D := ma.bind fun a => mb.bind fun b => mc.bind fun c => f a b c
theorem o3s {A B C D : Type} {f : A -> B -> C -> Option D} {ma : Option A} {mb : Option B} {mc : Option C} {d : D} (h : o3 f ma mb mc = some d) : exists a b c, ma = some a ∧ mb = some b ∧ mc = some c ∧ f a b c = some d := by
  cases ma with
  | none => cases h
  | some a => cases mb with
    | none => cases h
    | some b => cases mc with
      | none => cases h
      | some c => exact ⟨a, b, c, rfl, rfl, rfl, h⟩
theorem en_sl {tl th : TO} {ma : Option (List A)} {ml mh : Option (Option Int)} (ha : EvB K te σ H ma) (hl : EvP tl σ H ml) (hh : EvP th σ H mh) : EvN K (tSl (rSlL K) te tl th) σ H (o3 (fun a l h => some (cutM a l h)) ma ml mh) := fun x hx H1 e Q q => by
  obtain ⟨a, l, h, e1, e2, e3, e4⟩ := o3s hx
  cases e4
  refine ha a e1 H1 e _ fun v H2 g2 r2 => hl l e2 H2 (e.trans g2) _ fun H3 g3 => hh h e3 H3 ((e.trans g2).trans g3) _ fun H4 g4 => ?_
  have g5 := (g2.trans g3).trans g4
  obtain ⟨p, vs, rfl, h2, h3⟩ := Rp.mono (g3.trans g4) r2
  exact ⟨p, vs, rfl, SqL.of h2, fun p' hp => q p' _ _ (g5.back hp) (g5.trans (Gx.new hp)) upd_same ((al_cut h3).mono fun _ _ => Rp.mono (Gx.new hp))⟩
/-- a slice of a tuple -/
theorem eb_slT {tl th : TO} {ma : Option (Tl A)} {ml mh : Option (Option Int)} (ha : EvB K te σ H ma) (hl : EvP tl σ H ml) (hh : EvP th σ H mh) : EvB K (tSl (rSlA K) te tl th) σ H (o3 (fun a l h => some (Tl.mk (cutM a.l l h))) ma ml mh) := fun x hx H1 e Q q => by
  obtain ⟨a, l, h, e1, e2, e3, e4⟩ := o3s hx
  cases e4
  refine ha a e1 H1 e _ fun v H2 g2 r2 => hl l e2 H2 (e.trans g2) _ fun H3 g3 => hh h e3 H3 ((e.trans g2).trans g3) _ fun H4 g4 => ?_
  have g5 := (g2.trans g3).trans g4
  obtain ⟨p, vs, rfl, h2, h3⟩ := Rp.mono (g3.trans g4) r2
  refine ⟨p, vs, rfl, SqT.of h2, fun hw => q _ _ g5 ⟨p, vs, rfl, h2, ?_⟩, fun _ p' hp => q _ _ (g5.trans (Gx.new hp)) ⟨p', _, rfl, upd_same, (al_cut h3).mono fun _ _ => Rp.mono (Gx.new hp)⟩⟩
  have e6 : cutM a.l l h = a.l := by
    unfold cutM
    rw [← h3.len, hw.1, hw.2, List.drop_zero, Nat.sub_zero, h3.len]
    exact List.take_length
  rw [e6]
  exact h3
/-- xs + ys, lists -/
theorem en_cat {ma mb : Option (List A)} (ha : EvB K ta σ H ma) (hb : EvB K tb σ H mb) : EvN K (tOp rCat ta tb) σ H (o2 (fun a b => szOk (a ++ b)) ma mb) := fun x hx H1 e Q q => by
  obtain ⟨a, b, e1, e2, e3⟩ := o2s hx
  obtain ⟨rfl, hz⟩ := szOks e3
  refine ha a e1 H1 e _ fun v H2 g2 r2 => hb b e2 H2 (e.trans g2) _ fun w H3 g3 r3 => ?_
  obtain ⟨p, vs, rfl, h2, h3⟩ := Rp.mono g3 r2
  obtain ⟨p2, vs2, rfl, h4, h5⟩ := r3
  have g5 := g2.trans g3
  refine ⟨p, p2, vs, vs2, rfl, rfl, h2, h4, ?_, fun p' hp => q p' _ _ (g5.back hp) (g5.trans (Gx.new hp)) upd_same ((h3.app h5).mono fun _ _ => Rp.mono (Gx.new hp))⟩
  rw [h3.len, h5.len, ← List.length_append]
  exact Evl.sz_of hz
end
end Pu

set_option Elab.async false
set_option linter.all false
set_option maxRecDepth 100000
namespace Pu
open Pu.Rp (rp)
open PySem PySem.Spec PyProof.Rows L2
section
variable {K : Fg} {A B C D : Type} [Rp A] [Rp B] [Rp C] [Rp D]
variable {σ : L2.St} {G G' H H' : Hp} {L : Led} {M : List Addr} {te ta tb tc : TE} {tt tu : TT}

/-! what is walked: M is what a turn may change -/
def mns (H : Hp) (M : List Addr) : Hp := fun b => if b ∈ M then none else H b
theorem mns_ex {H : Hp} {M : List Addr} : Gx (mns H M) H := fun a o h => by
  unfold mns at h
  split at h
  · cases h
  · exact h
theorem mns_nil {H : Hp} : mns H [] = H := by
  funext b
  unfold mns
  rw [if_neg (by simp)]
theorem mns_in {H : Hp} {M : List Addr} {b : Addr} (h : b ∈ M) : mns H M b = none := if_pos h
theorem mns_out {H : Hp} {M : List Addr} {b : Addr} (h : b ∉ M) : mns H M b = H b := if_neg h
theorem mns_mono {H H' : Hp} {M : List Addr} (e : Gx H H') : Gx (mns H M) (mns H' M) := fun a o h => by
  by_cases q : a ∈ M
  · rw [mns_in q] at h; cases h
  · rw [mns_out q] at h; rw [mns_out q]; exact e a o h
/-- B within H, apart from M -/
theorem mns_of {B H : Hp} {M : List Addr} (e : Gx B H) (h : forall p, p ∈ M -> B p = none) : Gx B (mns H M) := fun a o q => by
  have z : a ∉ M := fun y => by rw [h a y] at q; cases q
  rw [mns_out z]
  exact e a o q
/-- a change at one of M -/
theorem mns_upd {S H : Hp} {p : Addr} {o : HO} (e : Gx S H) (hp : S p = none) : Gx S (upd H p o) := Gx.mut e hp
def EvS (K : Fg) (te : TE) (σ : L2.St) (M : List Addr) (H : Hp) (m : Option A) : Prop :=
  forall x, m = some x -> forall H1, Gx H H1 -> forall Q : VK, (forall v H2, Gx H1 H2 -> rp K (mns H2 M) v x -> Q v H2) -> te σ H1 Q
theorem es_v {i : Nat} {v : V} {x : A} {Bs : Hp} (h : σ[i]? = some (some v)) (r : rp K Bs v x) (e : Gx Bs H) (hM : forall p, p ∈ M -> Bs p = none) : EvS K (tVar i) σ M H (some x) := fun y hy H1 e1 Q q => by
  cases hy
  exact ⟨v, h, q v H1 Gx.rfl (Rp.mono (mns_of (e.trans e1) hM) r)⟩
theorem es_o {m : Option A} (h : EvO K te σ G H m) (a : At G H L) (hM : forall p, p ∈ M -> p ∈ L.map (·.1)) : EvS K te σ M H m := fun x hx H1 e1 Q q =>
  h x hx G H1 L Gx.rfl e1 (a.grow e1) Q fun v G2 H2 g2 e2 a2 r => q v H2 e2 (Rp.mono (mns_of a2.ex fun p hp => by
    obtain ⟨o, ho, e⟩ := List.mem_map.mp (hM p hp)
    rw [← e]
    exact (a2.led o ho).2.1) r)
theorem es_b {m : Option A} (h : EvB K te σ H m) : EvS K te σ [] H m := fun x hx H1 e1 Q q => h x hx H1 e1 Q fun v H2 e2 r => q v H2 e2 (by rw [mns_nil]; exact r)
/-- .. of what leans on tuples alone -/
theorem es_im [Im A] {m : Option A} (h : EvB K te σ H m) (hM : forall p, p ∈ M -> exists o, H p = some o ∧ Mu o) : EvS K te σ M H m := fun x hx H1 e1 Q q => h x hx H1 e1 Q fun v H2 e2 r => q v H2 e2 (Im.im (fun a xs ha => by
  have z : a ∉ M := fun y => by
    obtain ⟨o, ho, mu⟩ := hM a y
    have := (e1.trans e2) a o ho
    rw [this] at ha
    rw [Option.some.inj ha] at mu
    exact mu
  rw [mns_out z]
  exact ha) r)
def Wk {I : Type} [Rp I] (K : Fg) (J : It) (xs : List I) (S : Hp) : Prop :=
  (forall i H, i < xs.length -> Gx S H -> J.go i H) ∧ (forall H, Gx S H -> J.stop xs.length H) ∧ (forall i H v H' x, Gx S H -> xs[i]? = some x -> J.yld i H v H' -> Gx H H' ∧ rp K H' v x)
def EvI {I : Type} [Rp I] (K : Fg) (wi : TI) (σ : L2.St) (M : List Addr) (H : Hp) (m : Option (List I)) : Prop :=
  forall xs, m = some xs -> forall H1, Gx H H1 -> forall R : It -> Hp -> Prop, (forall J H2, Gx H1 H2 -> Wk K J xs (mns H2 M) -> R J H2) -> wi σ H1 R
theorem EvS.mono {m : Option A} (h : EvS K te σ M H m) (e : Gx H H') : EvS K te σ M H' m := fun x hx H1 e1 Q q => h x hx H1 (e.trans e1) Q q
theorem wk_list {a : Addr} {vs : List V} {xs : List A} {S : Hp} (h : S a = some (.lst vs)) (r : Al (rp K S) vs xs) : Wk K (Itl K a) xs S :=
  ⟨fun i H hi e => by
    obtain ⟨v, hv, _⟩ := r.get (List.getElem?_eq_getElem hi)
    exact ⟨vs, v, SqL.of (e _ _ h), hv⟩, fun H e => ⟨vs, SqL.of (e _ _ h), by rw [r.len]; exact Nat.le_refl _⟩, fun i H v H' x e hx y => by
    obtain ⟨rfl, y⟩ := y
    obtain ⟨w, hw, rw'⟩ := r.get hx
    have q := y vs (SqL.of (e _ _ h))
    rw [hw] at q
    cases q
    exact ⟨Gx.rfl, Rp.mono e rw'⟩⟩
theorem wk_tup {a : Addr} {vs : List V} {xs : List A} {S : Hp} (h : S a = some (.tup vs)) (r : Al (rp K S) vs xs) : Wk K (Itt K a) xs S :=
  ⟨fun i H hi e => by
    obtain ⟨v, hv, _⟩ := r.get (List.getElem?_eq_getElem hi)
    exact ⟨vs, v, SqT.of (e _ _ h), hv⟩, fun H e => ⟨vs, SqT.of (e _ _ h), by rw [r.len]; exact Nat.le_refl _⟩, fun i H v H' x e hx y => by
    obtain ⟨rfl, y⟩ := y
    obtain ⟨w, hw, rw'⟩ := r.get hx
    have q := y vs (SqT.of (e _ _ h))
    rw [hw] at q
    cases q
    exact ⟨Gx.rfl, Rp.mono e rw'⟩⟩
theorem ei_list {ma : Option (List A)} (h : EvS K ta σ M H ma) : EvI K (iList K ta) σ M H ma := fun xs hx H1 e R q =>
  h xs hx H1 e _ fun v H2 g r => by
    obtain ⟨a, vs, rfl, h2, h3⟩ := r
    exact ⟨a, rfl, ⟨vs, SqL.of (mns_ex _ _ h2)⟩, q _ H2 g (wk_list h2 h3)⟩
theorem ei_tup {ma : Option (Tl A)} (h : EvS K ta σ M H ma) : EvI K (iTup K ta) σ M H (ma.map Tl.l) := fun xs hx H1 e R q => by
  obtain ⟨x, hx1, rfl⟩ := Option.map_eq_some_iff.mp hx
  exact h x hx1 H1 e _ fun v H2 g r => by
    obtain ⟨a, vs, rfl, h2, h3⟩ := r
    exact ⟨a, rfl, ⟨vs, SqT.of (mns_ex _ _ h2)⟩, q _ H2 g (wk_tup h2 h3)⟩
def rng (lo hi : Int) : List Int := (List.range (hi - lo).toNat).map fun i : Nat => lo + (i : Int)
theorem rng_get {lo hi : Int} {i : Nat} {x : Int} (h : (rng lo hi)[i]? = some x) : x = lo + (i : Int) := by
  unfold rng at h
  rw [List.getElem?_map] at h
  obtain ⟨k, hk, rfl⟩ := Option.map_eq_some_iff.mp h
  obtain ⟨_, e⟩ := List.getElem?_eq_some_iff.mp hk
  rw [List.getElem_range] at e
  rw [e]
theorem wk_rng {lo hi : Int} {S : Hp} : Wk K (Itr lo (hi - lo).toNat) (rng lo hi) S := by
  have hl : (rng lo hi).length = (hi - lo).toNat := by unfold rng; rw [List.length_map, List.length_range]
  refine ⟨fun i H h _ => by rw [hl] at h; exact h, fun H _ => by rw [hl]; exact Nat.le_refl _, fun i H v H' x _ hx y => ?_⟩
  obtain ⟨rfl, rfl⟩ := y
  rw [rng_get hx]
  exact ⟨Gx.rfl, rfl⟩
def rgOk (i : Int) : Bool := decide (-(2 ^ 62) ≤ i) && decide (i < 2 ^ 62)
theorem rgOks {i : Int} (h : rgOk i = true) : -(2 ^ 62) ≤ i ∧ i < 2 ^ 62 := by
  unfold rgOk at h
  simpa using h
theorem ei_rng1 {ma : Option Int} (h : EvB K ta σ H ma) : EvI K (iRng1 (tCons ta tNil)) σ M H (ma.bind fun j => if rgOk j = true then some (rng 0 j) else none) := fun xs hx H1 e R q => by
  cases ma with
  | none => cases hx
  | some j =>
    by_cases hj : rgOk j = true
    · have hx' : (if rgOk j = true then some (rng 0 j) else none) = some xs := hx
      rw [if_pos hj] at hx'
      cases hx'
      refine h j rfl H1 e _ fun v H2 g r => ?_
      obtain ⟨h1, h2⟩ := rgOks hj
      refine ⟨j, by rw [show v = .int j from r], h1, h2, q _ H2 g ?_⟩
      have := wk_rng (K := K) (lo := 0) (hi := j) (S := mns H2 M)
      rw [Int.sub_zero] at this
      exact this
    · have hx' : (if rgOk j = true then some (rng 0 j) else none) = some xs := hx
      rw [if_neg hj] at hx'
      cases hx'
theorem ei_rng2 {ma mb : Option Int} (h : EvB K ta σ H ma) (h' : EvB K tb σ H mb) : EvI K (iRng2 (tCons ta (tCons tb tNil))) σ M H (o2 (fun i j => if rgOk i = true ∧ rgOk j = true then some (rng i j) else none) ma mb) := fun xs hx H1 e R q => by
  obtain ⟨i, j, e1, e2, e3⟩ := o2s hx
  by_cases hj : rgOk i = true ∧ rgOk j = true
  · rw [if_pos hj] at e3
    cases e3
    refine h i e1 H1 e _ fun v H2 g r => h' j e2 H2 (e.trans g) _ fun w H3 g3 r3 => ?_
    obtain ⟨h1, h2⟩ := rgOks hj.1
    obtain ⟨h3, h4⟩ := rgOks hj.2
    exact ⟨i, j, by rw [show v = .int i from r, show w = .int j from r3], ⟨h1, h2, h3, h4⟩, q _ H3 (g.trans g3) wk_rng⟩
  · rw [if_neg hj] at e3
    cases e3
/-- two lists side by side -/
theorem wk_zip {a b : Addr} {vs ws : List V} {xs : List A} {ys : List B} {S : Hp} (h : S a = some (.lst vs)) (r : Al (rp K S) vs xs) (h' : S b = some (.lst ws)) (r' : Al (rp K S) ws ys) : Wk K (Itz K a b) (xs.zip ys) S := by
  refine ⟨fun i H hi e => ?_, fun H e => ⟨vs, ws, SqL.of (e _ _ h), SqL.of (e _ _ h'), ?_⟩, fun i H v H' x e hx y => ?_⟩
  · rw [List.length_zip] at hi
    obtain ⟨v, hv, _⟩ := r.get (List.getElem?_eq_getElem (show i < xs.length by omega))
    obtain ⟨w, hw, _⟩ := r'.get (List.getElem?_eq_getElem (show i < ys.length by omega))
    exact ⟨vs, ws, v, w, SqL.of (e _ _ h), SqL.of (e _ _ h'), hv, hw⟩
  · rw [List.length_zip, r.len, r'.len]
    omega
  · obtain ⟨T, x1, y1, rfl, hT, rfl, f1, f2⟩ := y
    have hz := List.getElem?_zip_eq_some.mp hx
    obtain ⟨v, hv, rv⟩ := r.get hz.1
    obtain ⟨w, hw, rw'⟩ := r'.get hz.2
    have q1 := f1 vs (SqL.of (e _ _ h))
    have q2 := f2 ws (SqL.of (e _ _ h'))
    rw [hv] at q1
    rw [hw] at q2
    cases q1; cases q2
    have g := Gx.new (o := HO.tup [x1, y1]) hT
    exact ⟨g, T, x1, y1, rfl, upd_same, Rp.mono (e.trans g) rv, Rp.mono (e.trans g) rw'⟩
theorem ei_zip {ma : Option (List A)} {mb : Option (List B)} (h : EvS K ta σ M H ma) (h' : EvS K tb σ M H mb) : EvI K (iZip K (tCons ta (tCons tb tNil))) σ M H (o2 (fun a b => some (a.zip b)) ma mb) := fun xs hx H1 e R q => by
  obtain ⟨a, b, e1, e2, e3⟩ := o2s hx
  cases e3
  refine h a e1 H1 e _ fun v H2 g r => h' b e2 H2 (e.trans g) _ fun w H3 g3 r3 => ?_
  obtain ⟨p, vs, rfl, h2, h3⟩ := Rp.mono (mns_mono (M := M) g3) r
  obtain ⟨p', ws, rfl, h4, h5⟩ := r3
  exact ⟨p, p', vs, ws, rfl, SqL.of (mns_ex _ _ h2), SqL.of (mns_ex _ _ h4), q _ H3 (g.trans g3) (wk_zip h2 h3 h4 h5)⟩
/-- enumerate -/
def enum {A : Type} (xs : List A) : List (Int × A) := (List.range xs.length).map (fun i : Nat => (i : Int)) |>.zip xs
theorem enum_len {A : Type} (xs : List A) : (enum xs).length = xs.length := by
  unfold enum
  rw [List.length_zip, List.length_map, List.length_range, Nat.min_self]
theorem wk_enum {a : Addr} {vs : List V} {xs : List A} {S : Hp} (h : S a = some (.lst vs)) (r : Al (rp K S) vs xs) : Wk K (Ite K a) (enum xs) S := by
  have w := walk_enum (K := K) (a := a) (xs := vs)
  refine ⟨fun i H hi e => w.goes i H (by rw [r.len, ← enum_len]; exact hi) (SqL.of (e _ _ h)), fun H e => ?_, fun i H v H' x e hx y => ?_⟩
  · rw [enum_len, ← r.len]
    exact w.stops H (SqL.of (e _ _ h))
  · have hi : i < (enum xs).length := (List.getElem?_eq_some_iff.mp hx).1
    obtain ⟨T, x1, y1, rfl, hT, rfl, f1, f2⟩ := w.yields i H v H' (by rw [r.len, ← enum_len]; exact hi) (SqL.of (e _ _ h)) y
    unfold enum at hx
    have hz := List.getElem?_zip_eq_some.mp hx
    obtain ⟨v, hv, rv⟩ := r.get hz.2
    have f2' : vs[i]? = some y1 := f2
    have f1' : some (V.int (i : Nat)) = some x1 := f1
    rw [hv] at f2'
    cases f2'; cases f1'
    have g := Gx.new (o := HO.tup [V.int (i : Nat), y1]) hT
    refine ⟨g, T, _, y1, rfl, upd_same, ?_, Rp.mono (e.trans g) rv⟩
    have h1 := hz.1
    rw [List.getElem?_map] at h1
    obtain ⟨k, hk, e1⟩ := Option.map_eq_some_iff.mp h1
    obtain ⟨_, e2⟩ := List.getElem?_eq_some_iff.mp hk
    rw [List.getElem_range] at e2
    show V.int (i : Nat) = V.int x.1
    rw [← e1, e2]
theorem ei_enum {ma : Option (List A)} (h : EvS K ta σ M H ma) : EvI K (iEnum K (tCons ta tNil)) σ M H (ma.map enum) := fun xs hx H1 e R q => by
  obtain ⟨x, hx1, rfl⟩ := Option.map_eq_some_iff.mp hx
  exact h x hx1 H1 e _ fun v H2 g r => by
    obtain ⟨a, vs, rfl, h2, h3⟩ := r
    exact ⟨a, vs, rfl, SqL.of (mns_ex _ _ h2), q _ H2 g (wk_enum h2 h3)⟩

/-! targets -/
abbrev Bd (I : Type) := I -> L2.St -> Hp -> L2.St -> Prop
def bN (A : Type) [Rp A] (K : Fg) (j : Nat) : Bd A := fun x σ H σ2 => exists v, rp K H v x ∧ σ2 = σ.set j (some v)
def bP {A B : Type} (b1 : Bd A) (b2 : Bd B) : Bd (A × B) := fun x σ H σ2 => exists σ1, b1 x.1 σ H σ1 ∧ b2 x.2 σ1 H σ2
def b3 {A B C : Type} (b1 : Bd A) (b2 : Bd B) (b3 : Bd C) : Bd (T3 A B C) := fun x σ H σ2 => exists σ1 σ3, b1 x.a σ H σ1 ∧ b2 x.b σ1 H σ3 ∧ b3 x.c σ3 H σ2
def TgOk {I : Type} [Rp I] (K : Fg) (g : TG) (b : Bd I) : Prop := forall x v σ H (Q : L2.St -> Hp -> Prop), rp K H v x -> (forall σ2, b x σ H σ2 -> Q σ2 H) -> g v σ H Q
theorem tg_n {j : Nat} : TgOk K (gName j) (bN A K j) := fun x v σ H Q r q => q _ ⟨v, r, rfl⟩
theorem tg_p {g1 g2 : TG} {b1 : Bd A} {b2 : Bd B} (h1 : TgOk K g1 b1) (h2 : TgOk K g2 b2) : TgOk K (gTup K 2 (gCons g1 (gCons g2 gNil))) (bP b1 b2) := fun x v σ H Q r q => by
  obtain ⟨a, u, w, rfl, e, r1, r2⟩ := r
  refine ⟨a, [u, w], rfl, SqT.of e, rfl, u, [w], rfl, h1 x.1 u σ H _ r1 fun σ1 q1 => ⟨w, [], rfl, h2 x.2 w σ1 H _ r2 fun σ2 q2 => ⟨rfl, q σ2 ⟨σ1, q1, q2⟩⟩⟩⟩
theorem tg_3 {g1 g2 g3 : TG} {b1 : Bd A} {b2 : Bd B} {b3' : Bd C} (h1 : TgOk K g1 b1) (h2 : TgOk K g2 b2) (h3 : TgOk K g3 b3') : TgOk K (gTup K 3 (gCons g1 (gCons g2 (gCons g3 gNil)))) (b3 b1 b2 b3') := fun x v σ H Q r q => by
  obtain ⟨a, u, w, z, rfl, e, r1, r2, r3⟩ := r
  refine ⟨a, [u, w, z], rfl, SqT.of e, rfl, u, [w, z], rfl, h1 x.a u σ H _ r1 fun σ1 q1 => ⟨w, [z], rfl, h2 x.b w σ1 H _ r2 fun σ2 q2 => ⟨z, [], rfl, h3 x.c z σ2 H _ r3 fun σ3 q3 => ⟨rfl, q σ3 ⟨σ1, σ2, q1, q2, q3⟩⟩⟩⟩⟩
/-- the block's own slots alone are set -/
theorem wipe_sets : forall {vs : List Nat} {σ : L2.St} {j : Nat} {o : Option V}, j ∈ vs -> wipe (σ.set j o) vs = wipe σ vs
  | [], _, _, _, h => nomatch h
  | k :: vs, σ, j, o, h => by
    by_cases e : j ∈ vs
    · show (wipe (σ.set j o) vs).set k none = (wipe σ vs).set k none
      rw [wipe_sets e]
    · have ek : j = k := (List.mem_cons.mp h).elim id fun z => absurd z e
      subst ek
      have c : wipe (σ.set j o) vs = (wipe σ vs).set j o := by
        clear h
        induction vs with
        | nil => rfl
        | cons k vs ih =>
          simp only [List.mem_cons, not_or] at e
          show (wipe (σ.set j o) vs).set k none = ((wipe σ vs).set k none).set j o
          rw [ih e.2, List.set_comm _ _ e.1]
      show (wipe (σ.set j o) vs).set j none = (wipe σ vs).set j none
      rw [c, List.set_set]
theorem wipe_wipe (σ : L2.St) : forall vs : List Nat, wipe (wipe σ vs) vs = wipe σ vs := by
  have h : forall (ws vs : List Nat), (forall j, j ∈ ws -> j ∈ vs) -> wipe (wipe σ ws) vs = wipe σ vs := by
    intro ws
    induction ws with
    | nil => intro vs _; rfl
    | cons k ws ih =>
      intro vs hs
      show wipe ((wipe σ ws).set k none) vs = wipe σ vs
      rw [wipe_sets (hs k List.mem_cons_self)]
      exact ih vs fun j hj => hs j (List.mem_cons_of_mem _ hj)
  exact fun vs => h vs vs fun _ z => z
def BdIn {I : Type} (b : Bd I) (vs : List Nat) : Prop := forall x σ H σ2, b x σ H σ2 -> wipe σ2 vs = wipe σ vs
theorem bi_n {vs : List Nat} {j : Nat} (h : j ∈ vs) : BdIn (bN A K j) vs := fun x σ H σ2 ⟨v, _, e⟩ => by rw [e]; exact wipe_sets h
theorem bi_p {vs : List Nat} {b1 : Bd A} {b2 : Bd B} (h1 : BdIn b1 vs) (h2 : BdIn b2 vs) : BdIn (bP b1 b2) vs := fun x σ H σ2 ⟨σ1, q1, q2⟩ => (h2 _ _ _ _ q2).trans (h1 _ _ _ _ q1)
theorem bi_3 {vs : List Nat} {b1 : Bd A} {b2 : Bd B} {b3' : Bd C} (h1 : BdIn b1 vs) (h2 : BdIn b2 vs) (h3 : BdIn b3' vs) : BdIn (b3 b1 b2 b3') vs := fun x σ H σ2 ⟨σ1, σ3, q1, q2, q3⟩ => ((h3 _ _ _ _ q3).trans (h2 _ _ _ _ q2)).trans (h1 _ _ _ _ q1)

/-! comprehensions -/
def comp {I A : Type} (c : I -> Option Bool) (f : I -> Option A) : List I -> Option (List A)
  | [] => some []
  | x :: xs => (c x).bind fun b => if b = true then (f x).bind fun y => (comp c f xs).bind fun r => some (y :: r) else comp c f xs
theorem comp_cons {I A : Type} {c : I -> Option Bool} {f : I -> Option A} {x : I} {xs : List I} {r : List A} (h : comp c f (x :: xs) = some r) :
    (c x = some true ∧ exists y r', f x = some y ∧ comp c f xs = some r' ∧ r = y :: r') ∨ (c x = some false ∧ comp c f xs = some r) := by
  unfold comp at h
  cases hc : c x with
  | none => rw [hc] at h; cases h
  | some b =>
    rw [hc] at h
    cases b with
    | true =>
      have h' : ((f x).bind fun y => (comp c f xs).bind fun r => some (y :: r)) = some r := h
      cases hf : f x with
      | none => rw [hf] at h'; cases h'
      | some y =>
        rw [hf] at h'
        have h2 : ((comp c f xs).bind fun r => some (y :: r)) = some r := h'
        cases hr : comp c f xs with
        | none => rw [hr] at h2; cases h2
        | some r' =>
          rw [hr] at h2
          exact .inl ⟨rfl, y, r', rfl, rfl, (Option.some.inj h2).symm⟩
    | false => exact .inr ⟨rfl, h⟩
theorem comp_len {I A : Type} {c : I -> Option Bool} {f : I -> Option A} : forall {xs : List I} {r : List A}, comp c f xs = some r -> r.length ≤ xs.length
  | [], r, h => by cases h; exact Nat.le_refl _
  | x :: xs, r, h => by
    rcases comp_cons h with ⟨_, y, r', _, h2, rfl⟩ | ⟨_, h2⟩
    · have := comp_len h2
      simp only [List.length_cons]; omega
    · have := comp_len h2
      simp only [List.length_cons]; omega
def lim {A : Type} (n : Nat) (xs : List A) : Option (List A) := if xs.length ≤ n then some xs else none
/-- the items as they stand at each turn -/
theorem en_lc {I : Type} [Rp I] [Im A] {wi : TI} {g : TG} {b : Bd I} {vs : List Nat} {mx : Option (List I)} {c : I -> Option Bool} {f : I -> Option A} (hi : EvI K wi σ [] H mx) (hg : TgOk K g b) (hb : BdIn b vs)
    (ht : forall x σ2 H', Gx H H' -> b x (wipe σ vs) H' σ2 -> EvT tt σ2 H' (c x)) (he : forall x σ2 H', Gx H H' -> b x (wipe σ vs) H' σ2 -> EvB K te σ2 H' (f x)) :
    EvN K (tLc wi g tt te vs) σ H (mx.bind fun xs => (lim 100000 xs).bind (comp c f)) := fun r hr H1 e1 Q q => by
  cases mx with
  | none => cases hr
  | some xs =>
    have hr' : (lim 100000 xs).bind (comp c f) = some r := hr
    unfold lim at hr'
    by_cases hz : xs.length ≤ 100000
    · rw [if_pos hz] at hr'
      have hr2 : comp c f xs = some r := hr'
      refine hi xs rfl H1 e1 _ fun J H2 e2 wk => ?_
      rw [mns_nil] at wk
      intro D hD
      obtain ⟨go, stop, yld⟩ := wk
      -- what is left
      refine ⟨fun i m Hc => m = xs.length - i ∧ i ≤ xs.length ∧ Gx H2 Hc ∧ exists vs' ys r', Hc D = some (.lst vs') ∧ Al (rp K Hc) vs' ys ∧ ys.length ≤ i ∧ comp c f (xs.drop i) = some r' ∧ r = ys ++ r',
        ⟨xs.length, by simp, Nat.zero_le _, Gx.new hD, [], [], r, upd_same, trivial, Nat.le_refl _, hr2, rfl⟩, ?_⟩
      rintro i m Hc ⟨rfl, hle, gc, vs', ys, r', hDc, ral, hlen, hcomp, rfl⟩
      by_cases hlt : i < xs.length
      · refine .inr ⟨go i Hc hlt gc, fun Hn => i + 1 ≤ xs.length ∧ Gx H2 Hn ∧ exists vs' ys' r'', Hn D = some (.lst vs') ∧ Al (rp K Hn) vs' ys' ∧ ys'.length ≤ i + 1 ∧ comp c f (xs.drop (i + 1)) = some r'' ∧ ys ++ r' = ys' ++ r'',
          fun Hn hn => ⟨xs.length - (i + 1), by omega, rfl, hn.1, hn.2⟩, fun v Hy hy => ?_⟩
        have hx := List.getElem?_eq_getElem hlt
        obtain ⟨gy, ry⟩ := yld i Hc v Hy _ gc hx hy
        have gH : Gx H Hy := (e1.trans e2).trans (gc.trans gy)
        refine hg _ v (wipe σ vs) Hy _ ry fun σ2 hσ => ⟨(hb _ _ _ _ hσ).trans (wipe_wipe σ vs), ?_⟩
        rw [List.drop_eq_getElem_cons hlt] at hcomp
        rcases comp_cons hcomp with ⟨hc, y, r2, hf, h2, rfl⟩ | ⟨hc, h2⟩
        · refine ht _ σ2 Hy gH hσ true hc Hy Gx.rfl _ fun H3 g3 => ite_tt ?_
          refine he _ σ2 Hy gH hσ y hf H3 g3 _ fun u H4 g4 r4 => ?_
          have gD := gy.trans (g3.trans g4)
          have h4 : H4 D = some (.lst vs') := gD _ _ hDc
          have tx : Tx H4 (upd H4 D (.lst (vs' ++ [u]))) := Tx.mut fun xs q => by rw [h4] at q; cases q
          refine ⟨vs', h4, ?_, hlt, (gc.trans gD).mut hD, vs' ++ [u], ys ++ [y], r2, upd_same, ?_, ?_, h2, by simp⟩
          · rw [ral.len]; exact Evl.sz_lt (by omega)
          · exact ((ral.mono fun _ _ => Rp.mono gD).app (Al.one r4)).mono fun _ _ => Im.im tx
          · rw [List.length_append]; simp only [List.length_cons, List.length_nil]; omega
        · refine ht _ σ2 Hy gH hσ false hc Hy Gx.rfl _ fun H3 g3 => ite_ff ?_
          exact ⟨hlt, (gc.trans gy).trans g3, vs', ys, r', (gy.trans g3) _ _ hDc, ral.mono fun _ _ => Rp.mono (gy.trans g3), by omega, h2, rfl⟩
      · have hi : i = xs.length := by omega
        subst hi
        rw [List.drop_length] at hcomp
        cases hcomp
        rw [List.append_nil] at *
        exact .inl ⟨stop Hc gc, q D vs' Hc (e2.back hD) (e2.trans gc) hDc ral⟩
    · rw [if_neg hz] at hr'
      cases hr'
end
end Pu

set_option Elab.async false
set_option linter.all false
set_option maxRecDepth 100000
namespace Pu
open Pu.Rp (rp)
open PySem PySem.Spec PyProof.Rows L2
/-! the ledger's moves -/
theorem nd_mid {A : Type} {p : A} : forall {a b : List A}, (a ++ p :: b).Nodup -> p ∉ a ++ b ∧ (a ++ b).Nodup
  | [], b, h => by
    have := List.nodup_cons.mp h
    exact this
  | x :: a, b, h => by
    have h' := List.nodup_cons.mp h
    have ih := nd_mid h'.2
    have hx : x ∉ a ++ p :: b := h'.1
    refine ⟨fun z => ?_, List.nodup_cons.mpr ⟨fun z => hx ?_, ih.2⟩⟩
    · rcases List.mem_cons.mp z with e | z
      · exact hx (by rw [← e]; simp)
      · exact ih.1 z
    · rcases List.mem_append.mp z with z | z
      · exact List.mem_append_left _ z
      · exact List.mem_append_right _ (List.mem_cons_of_mem _ z)
theorem At.add {G H : Hp} {L : Led} {p : Addr} {o : HO} (A : At G H L) (h : H p = none) (m : Mu o) : At G (upd H p o) ((p, o) :: L) := by
  have e : Gx H (upd H p o) := Gx.new h
  refine ⟨A.ex.trans e, List.nodup_cons.mpr ⟨fun z => ?_, A.nd⟩, fun q hq => ?_⟩
  · obtain ⟨r, hr, er⟩ := List.mem_map.mp z
    have := (A.led r hr).1
    rw [er, h] at this
    cases this
  · rcases List.mem_cons.mp hq with rfl | hq
    · exact ⟨upd_same, A.ex.back h, m⟩
    · exact ⟨e _ _ (A.led q hq).1, (A.led q hq).2⟩
theorem At.set {G H : Hp} {L1 L2 : Led} {p : Addr} {o o' : HO} (A : At G H (L1 ++ (p, o) :: L2)) (m : Mu o') : At G (upd H p o') (L1 ++ (p, o') :: L2) := by
  have nd := A.nd
  rw [List.map_append, List.map_cons] at nd
  have ne : forall q, q ∈ L1 ++ L2 -> q.1 ≠ p := fun q hq e => by
    have n2 := nd_mid nd
    refine n2.1 ?_
    rw [← List.map_append]
    exact List.mem_map.mpr ⟨q, hq, e⟩
  have hp := A.led (p, o) (by simp)
  refine ⟨A.ex.mut hp.2.1, by rw [List.map_append, List.map_cons]; exact nd, fun q hq => ?_⟩
  rcases List.mem_append.mp hq with h1 | h1
  · have z := A.led q (List.mem_append_left _ h1)
    exact ⟨by rw [upd_ne (ne q (List.mem_append_left _ h1))]; exact z.1, z.2⟩
  · rcases List.mem_cons.mp h1 with rfl | h2
    · exact ⟨upd_same, hp.2.1, m⟩
    · have z := A.led q (List.mem_append_right _ (List.mem_cons_of_mem _ h2))
      exact ⟨by rw [upd_ne (ne q (List.mem_append_right _ h2))]; exact z.1, z.2⟩
theorem At.frz {G H : Hp} {L1 L2 : Led} {p : Addr} {o : HO} (A : At G H (L1 ++ (p, o) :: L2)) : Gx G (upd G p o) ∧ At (upd G p o) H (L1 ++ L2) := by
  have nd := A.nd
  rw [List.map_append, List.map_cons] at nd
  have n2 := nd_mid nd
  have hp := A.led (p, o) (by simp)
  refine ⟨Gx.new hp.2.1, fun a u h => ?_, by rw [List.map_append]; exact n2.2, fun q hq => ?_⟩
  · by_cases e : a = p
    · rw [e, upd_same] at h
      cases h
      rw [e]; exact hp.1
    · rw [upd_ne e] at h
      exact A.ex a u h
  · have hq' : q ∈ L1 ++ (p, o) :: L2 := by
      rcases List.mem_append.mp hq with h1 | h1
      · exact List.mem_append_left _ h1
      · exact List.mem_append_right _ (List.mem_cons_of_mem _ h1)
    have z := A.led q hq'
    refine ⟨z.1, ?_, z.2.2⟩
    rw [upd_ne]
    · exact z.2.1
    · intro e
      refine n2.1 ?_
      rw [← List.map_append]
      exact List.mem_map.mpr ⟨q, hq, e⟩
theorem At.drop {G H : Hp} {L1 L2 : Led} (A : At G H (L1 ++ L2)) : At G H L2 :=
  ⟨A.ex, by have := A.nd; rw [List.map_append] at this; exact (List.nodup_append.mp this).2.1, fun q hq => A.led q (List.mem_append_right _ hq)⟩
section
variable {K : Fg} {A B C D : Type} [Rp A] [Rp B] [Rp C] [Rp D]
variable {σ : L2.St} {G G' H H' : Hp} {L L1 L2' : Led} {M : List Addr} {te ta tb tc : TE} {tt tu : TT} {X : Ends} {t1 t2 u : TS} {i : Nat}
theorem mv_rp {p : Addr} {vs : List V} {xs : List A} (a : At G H L) (hp : (p, HO.lst vs) ∈ L) (r : Al (rp K G) vs xs) : rp K H (.ref p) xs :=
  ⟨p, vs, rfl, (a.led _ hp).1, r.mono fun _ _ => Rp.mono a.ex⟩

/-! statements -/
theorem st_asg {m : Option A} {x : A} (h : EvO K te σ G H m) (hm : m = some x) (a : At G H L) (k : forall v G2 H2, Gx G G2 -> Gx H H2 -> At G2 H2 L -> rp K G2 v x -> u X (σ.set i (some v)) H2) : tSeq (tAsg te (gName i)) u X σ H :=
  h x hm G H L Gx.rfl Gx.rfl a _ fun v G2 H2 g e a2 r => k v G2 H2 g e a2 r
/-- a name that reads what others hold -/
theorem st_asgB {m : Option A} {x : A} (h : EvB K te σ H m) (hm : m = some x) (k : forall v H2, Gx H H2 -> rp K H2 v x -> u X (σ.set i (some v)) H2) : tSeq (tAsg te (gName i)) u X σ H :=
  h x hm H Gx.rfl _ fun v H2 e r => k v H2 e r
/-- names for the parts -/
theorem st_asgP {g : TG} {b : Bd A} {m : Option A} {x : A} (h : EvB K te σ H m) (hm : m = some x) (hg : TgOk K g b) (k : forall σ2 H2, Gx H H2 -> b x σ H2 σ2 -> u X σ2 H2) : tSeq (tAsg te g) u X σ H :=
  h x hm H Gx.rfl _ fun v H2 e r => hg x v σ H2 _ r fun σ2 q => k σ2 H2 e q
theorem st_new (a : At G H L) (k : forall p, H p = none -> At G (upd H p (.lst [])) ((p, .lst []) :: L) -> u X (σ.set i (some (.ref p))) (upd H p (.lst []))) : tSeq (tAsg (tLst tNil) (gName i)) u X σ H :=
  ⟨Nat.zero_le _, fun p hp => k p hp (a.add hp trivial)⟩
/-- a list that is one's own to change from now on -/
theorem st_newL {m : Option (List A)} {x : List A} (h : EvO K te σ G H m) (hm : m = some x) (a : At G H L) (k : forall p vs G2 H2, Gx G G2 -> Gx H H2 -> At G2 H2 L -> G2 p = some (.lst vs) -> Al (rp K G2) vs x -> u X (σ.set i (some (.ref p))) H2) : tSeq (tAsg te (gName i)) u X σ H :=
  h x hm G H L Gx.rfl Gx.rfl a _ fun v G2 H2 g e a2 r => by
    obtain ⟨p, vs, rfl, h2, h3⟩ := r
    exact k p vs G2 H2 g e a2 h2 h3
theorem st_app {p : Addr} {vs : List V} {m : Option A} {x : A} (hs : forall H1, Gx H H1 -> forall Q : VK, Q (.ref p) H1 -> ta σ H1 Q) (h : EvO K te σ G H m) (hm : m = some x) (a : At G H (L1 ++ (p, .lst vs) :: L2')) (hz : vs.length < 100000)
    (k : forall v G2 H2, Gx G G2 -> Gx H H2 -> At G2 (upd H2 p (.lst (vs ++ [v]))) (L1 ++ (p, .lst (vs ++ [v])) :: L2') -> rp K G2 v x -> u X σ (upd H2 p (.lst (vs ++ [v])))) :
    tSeq (tDrop (tBM K "list" rAppend ta (tCons te tNil))) u X σ H := by
  have hp := (a.led (p, .lst vs) (by simp)).1
  refine hs H Gx.rfl _ ⟨Or.inl ⟨rfl, vs, SqL.of hp⟩, h x hm G H _ Gx.rfl Gx.rfl a _ fun v G2 H2 g e a2 r => ⟨p, vs, v, rfl, rfl, e _ _ hp, Evl.sz_lt hz, k v G2 H2 g e ?_ r⟩⟩
  exact a2.set trivial
theorem slot_ref {p : Addr} (h : σ[i]? = some (some (.ref p))) : forall H1, Gx H H1 -> forall Q : VK, Q (.ref p) H1 -> tVar i σ H1 Q := fun H1 _ Q q => ⟨_, h, q⟩
theorem st_reverse {p : Addr} {vs : List V} (hs : forall H1, Gx H H1 -> forall Q : VK, Q (.ref p) H1 -> ta σ H1 Q) (a : At G H (L1 ++ (p, .lst vs) :: L2'))
    (k : At G (upd H p (.lst vs.reverse)) (L1 ++ (p, .lst vs.reverse) :: L2') -> u X σ (upd H p (.lst vs.reverse))) : tSeq (tDrop (tBM0 K "list" rReverse ta)) u X σ H := by
  have hp := (a.led (p, .lst vs) (by simp)).1
  exact hs H Gx.rfl _ ⟨Or.inl ⟨rfl, vs, SqL.of hp⟩, p, vs, rfl, rfl, hp, k (a.set trivial)⟩
theorem st_clear {p : Addr} {vs : List V} (hs : forall H1, Gx H H1 -> forall Q : VK, Q (.ref p) H1 -> ta σ H1 Q) (a : At G H (L1 ++ (p, .lst vs) :: L2'))
    (k : At G (upd H p (.lst [])) (L1 ++ (p, .lst []) :: L2') -> u X σ (upd H p (.lst []))) : tSeq (tDrop (tBM0 K "list" rClear ta)) u X σ H := by
  have hp := (a.led (p, .lst vs) (by simp)).1
  exact hs H Gx.rfl _ ⟨Or.inl ⟨rfl, vs, SqL.of hp⟩, p, vs, rfl, rfl, hp, k (a.set trivial)⟩
/-- xs.extend(ys), ys a list just made or one's own -/
theorem st_extend {p : Addr} {vs : List V} {m : Option (List A)} {x : List A} (hs : forall H1, Gx H H1 -> forall Q : VK, Q (.ref p) H1 -> ta σ H1 Q) (h : EvO K te σ G H m) (hm : m = some x) (a : At G H (L1 ++ (p, .lst vs) :: L2')) (hz : vs.length + x.length ≤ 100000)
    (k : forall ws G2 H2, Gx G G2 -> Gx H H2 -> At G2 (upd H2 p (.lst (vs ++ ws))) (L1 ++ (p, .lst (vs ++ ws)) :: L2') -> Al (rp K G2) ws x -> u X σ (upd H2 p (.lst (vs ++ ws)))) :
    tSeq (tDrop (tBM K "list" rExtend ta (tCons te tNil))) u X σ H := by
  have hp := (a.led (p, .lst vs) (by simp)).1
  refine hs H Gx.rfl _ ⟨Or.inl ⟨rfl, vs, SqL.of hp⟩, h x hm G H _ Gx.rfl Gx.rfl a _ fun v G2 H2 g e a2 r => ?_⟩
  obtain ⟨b, ws, rfl, h2, h3⟩ := r
  exact ⟨p, b, vs, ws, rfl, rfl, e _ _ hp, a2.ex _ _ h2, by rw [h3.len]; exact Evl.sz_of hz, k ws G2 H2 g e (a2.set trivial) h3⟩
/-- xs[i] = e -/
theorem st_setL {p : Addr} {vs : List V} {m : Option A} {x : A} {mi : Option Int} {n : Int} {j : Nat} (h : EvO K te σ G H m) (hm : m = some x) (hs : forall H1, Gx H H1 -> forall Q : VK, Q (.ref p) H1 -> ta σ H1 Q) (hi : EvB K tb σ H mi) (hn : mi = some n)
    (a : At G H (L1 ++ (p, .lst vs) :: L2')) (hj : ixN vs.length n = some j)
    (k : forall v G2 H2, Gx G G2 -> Gx H H2 -> At G2 (upd H2 p (.lst (vs.set j v))) (L1 ++ (p, .lst (vs.set j v)) :: L2') -> rp K G2 v x -> u X σ (upd H2 p (.lst (vs.set j v)))) :
    tSeq (tAsg te (gSub ta tb rSetL)) u X σ H := by
  have hp := (a.led (p, .lst vs) (by simp)).1
  refine h x hm G H _ Gx.rfl Gx.rfl a _ fun v G2 H2 g e a2 r => hs H2 e _ ?_
  refine hi n hn H2 e _ fun w H3 e3 rw' => ⟨p, vs, n, j, rfl, rw', e3 _ _ (e _ _ hp), hj, k v G2 H3 g (e.trans e3) (a2.grow e3 |>.set trivial) r⟩
/-- a, b = xs.pop() -/
theorem st_popP {p : Addr} {vs : List V} {xs : List A} {x : A} {g : TG} {b : Bd A} (hs : forall H1, Gx H H1 -> forall Q : VK, Q (.ref p) H1 -> ta σ H1 Q) (a : At G H (L1 ++ (p, .lst vs) :: L2')) (r : Al (rp K G) vs xs) (hx : xs[xs.length - 1]? = some x) [Im A] (hg : TgOk K g b)
    (k : forall σ2, At G (upd H p (.lst vs.dropLast)) (L1 ++ (p, .lst vs.dropLast) :: L2') -> b x σ (upd H p (.lst vs.dropLast)) σ2 -> u X σ2 (upd H p (.lst vs.dropLast))) : tSeq (tAsg (tBM0 K "list" rPop ta) g) u X σ H := by
  have hp := (a.led (p, .lst vs) (by simp)).1
  obtain ⟨v, hv, rv⟩ := r.get hx
  rw [← r.len] at hv
  refine hs H Gx.rfl _ ⟨Or.inl ⟨rfl, vs, SqL.of hp⟩, p, vs, v, rfl, rfl, hp, hv, ?_⟩
  exact hg x v σ _ _ (Rp.mono (a.set trivial : At G (upd H p (.lst vs.dropLast)) _).ex rv) fun σ2 q => k σ2 (a.set trivial) q
theorem st_drop {m : Option A} {x : A} (h : EvB K te σ H m) (hm : m = some x) (k : forall H2, Gx H H2 -> u X σ H2) : tSeq (tDrop te) u X σ H := h x hm H Gx.rfl _ fun _ H2 e _ => k H2 e
theorem st_retO {m : Option A} {x : A} (h : EvO K te σ G H m) (hm : m = some x) (a : At G H L) (k : forall v G2 H2, Gx G G2 -> Gx H H2 -> At G2 H2 L -> rp K G2 v x -> X.rt v H2) : tRet te X σ H :=
  h x hm G H L Gx.rfl Gx.rfl a _ k
theorem st_if {m : Option Bool} {b : Bool} (h : EvT tt σ H m) (hm : m = some b) (k1 : b = true -> forall H2, Gx H H2 -> t1 { X with nx := u X } σ H2) (k2 : b = false -> forall H2, Gx H H2 -> t2 { X with nx := u X } σ H2) : tSeq (tIfS tt t1 t2) u X σ H :=
  h b hm H Gx.rfl _ fun H2 e => by
    cases b with
    | true => exact ite_tt (k1 rfl H2 e)
    | false => exact ite_ff (k2 rfl H2 e)
/-- an if at a block's end -/
theorem s1_if {m : Option Bool} {b : Bool} (h : EvT tt σ H m) (hm : m = some b) (k1 : b = true -> forall H2, Gx H H2 -> t1 X σ H2) (k2 : b = false -> forall H2, Gx H H2 -> t2 X σ H2) : tIfS tt t1 t2 X σ H :=
  h b hm H Gx.rfl _ fun H2 e => by
    cases b with
    | true => exact ite_tt (k1 rfl H2 e)
    | false => exact ite_ff (k2 rfl H2 e)
theorem st_one (h : tSeq t1 tNext X σ H) : t1 X σ H := h
theorem st_aug {f : Int -> Int -> Int} {m : Option Int} {x y : Int} (hx : σ[i]? = some (some (.int x))) (h : EvB K te σ H m) (hm : m = some y) (k : forall H2, Gx H H2 -> u X (σ.set i (some (.int (f x y)))) H2) : tSeq (tAug i te (ipI f)) u X σ H :=
  ⟨.int x, hx, h y hm H Gx.rfl _ fun v H2 e r => ⟨x, y, rfl, r, k H2 e⟩⟩

/-! loops -/
def bra {S R : Type} (k : S -> Option (S ⊕ R)) : S ⊕ R -> Option (S ⊕ R)
  | .inl s => k s
  | .inr r => some (.inr r)
def loopM {S I R : Type} (f : S -> I -> Option (S ⊕ R)) : S -> List I -> Option (S ⊕ R)
  | s, [] => some (.inl s)
  | s, x :: xs => (f s x).bind (bra fun s' => loopM f s' xs)
theorem st_for {I : Type} [Rp I] {wi : TI} {g : TG} {mx : Option (List I)} {xs : List I} (hi : EvI K wi σ M H mx) (hx : mx = some xs)
    (k : forall J H2, Gx H H2 -> Wk K J xs (mns H2 M) -> exists W : Nat -> Nat -> L2.St -> Hp -> Prop, (exists m, W 0 m σ H2) ∧ forall i m σ H, W i m σ H ->
      (J.stop i H ∧ u X σ H) ∨ (J.go i H ∧ exists N : L2.St -> Hp -> Prop, (forall σ' H', N σ' H' -> exists m', m' < m ∧ W (i + 1) m' σ' H') ∧ forall x H', J.yld i H x H' -> g x σ H' fun σ2 H2 => t1 { X with nx := N, ct := N, bk := u X } σ2 H2)) : tSeq (tFor wi g t1) u X σ H :=
  hi xs hx H Gx.rfl _ fun J H2 e wk => k J H2 e wk
theorem loop_run {S I R : Type} [Rp I] {J : It} {g : TG} {b : Bd I} {xs : List I} {Sh : Hp} {f : S -> I -> Option (S ⊕ R)} {s0 : S} {res : S ⊕ R} {E0 : Ends} {H2 : Hp} {E1 : L2.St -> Hp -> Prop} (wk : Wk K J xs Sh) (hl : loopM f s0 xs = some res) (hg : TgOk K g b)
    (In : S -> L2.St -> Hp -> Prop) (hS : forall s σ' H', In s σ' H' -> Gx Sh H') (h0 : In s0 σ H2)
    (hs : forall s x o σ' H' H'' σ2, x ∈ xs -> f s x = some o -> (forall r, o = .inr r -> res = .inr r) -> In s σ' H' -> Gx H' H'' -> b x σ' H'' σ2 ->
      t1 { E0 with nx := fun σ H => exists s', o = .inl s' ∧ In s' σ H, ct := fun σ H => exists s', o = .inl s' ∧ In s' σ H, bk := E1 } σ2 H'')
    (hd : forall s1 σ' H', res = .inl s1 -> In s1 σ' H' -> E1 σ' H') :
    exists W : Nat -> Nat -> L2.St -> Hp -> Prop, (exists m, W 0 m σ H2) ∧ forall i m σ H, W i m σ H ->
      (J.stop i H ∧ E1 σ H) ∨ (J.go i H ∧ exists N : L2.St -> Hp -> Prop, (forall σ' H', N σ' H' -> exists m', m' < m ∧ W (i + 1) m' σ' H') ∧ forall x H', J.yld i H x H' -> g x σ H' fun σ2 H2 => t1 { E0 with nx := N, ct := N, bk := E1 } σ2 H2) := by
  refine ⟨fun i m σ H => m = xs.length - i ∧ i ≤ xs.length ∧ exists s, In s σ H ∧ loopM f s (xs.drop i) = some res, ⟨xs.length, by simp, Nat.zero_le _, s0, h0, hl⟩, ?_⟩
  rintro i m σ' Hc ⟨rfl, hle, s, hin, hm⟩
  have gS := hS _ _ _ hin
  obtain ⟨go, stop, yld⟩ := wk
  by_cases hlt : i < xs.length
  · rw [List.drop_eq_getElem_cons hlt] at hm
    cases hf : f s xs[i] with
    | none => unfold loopM at hm; rw [hf] at hm; cases hm
    | some o =>
      have hm' : bra (fun s' => loopM f s' (xs.drop (i + 1))) o = some res := by
        unfold loopM at hm; rw [hf] at hm; exact hm
      refine .inr ⟨go i Hc hlt gS, fun σ H => exists s', o = .inl s' ∧ In s' σ H, fun σ3 H3 hN => ?_, fun v Hy hy => ?_⟩
      · obtain ⟨s', rfl, h3⟩ := hN
        exact ⟨xs.length - (i + 1), by omega, rfl, hlt, s', h3, hm'⟩
      · obtain ⟨gy, ry⟩ := yld i Hc v Hy _ gS (List.getElem?_eq_getElem hlt) hy
        refine hg _ v σ' Hy _ ry fun σ2 hσ => hs s xs[i] o σ' Hc Hy σ2 (List.getElem_mem hlt) hf (fun r er => ?_) hin gy hσ
        subst er
        exact (Option.some.inj hm').symm
  · have hi : i = xs.length := by omega
    subst hi
    rw [List.drop_length] at hm
    have e : res = .inl s := (Option.some.inj hm).symm
    exact .inl ⟨stop Hc gS, hd s σ' Hc e hin⟩
def whileM {S R : Type} (c : S -> Option Bool) (f : S -> Option (S ⊕ R)) : Nat -> S -> Option (S ⊕ R)
  | 0, _ => none
  | n + 1, s => (c s).bind fun b => if b = true then (f s).bind (bra fun s' => whileM c f n s') else some (.inl s)
theorem st_while {S R : Type} {c : S -> Option Bool} {f : S -> Option (S ⊕ R)} {n : Nat} {s0 : S} {res : S ⊕ R} (hl : whileM c f n s0 = some res) (In : S -> L2.St -> Hp -> Prop) (h0 : In s0 σ H)
    (hc : forall s σ' H', In s σ' H' -> EvT tt σ' H' (c s))
    (hs : forall s o σ' H' H'', c s = some true -> f s = some o -> (forall r, o = .inr r -> res = .inr r) -> In s σ' H' -> Gx H' H'' ->
      t1 { X with nx := fun σ H => exists s', o = .inl s' ∧ In s' σ H, ct := fun σ H => exists s', o = .inl s' ∧ In s' σ H, bk := u X } σ' H'')
    (hd : forall s1 σ' H' H'', res = .inl s1 -> In s1 σ' H' -> Gx H' H'' -> u X σ' H'') : tSeq (tWhile tt t1) u X σ H := by
  refine ⟨fun m σ H => exists s, In s σ H ∧ whileM c f m s = some res, ⟨n, s0, h0, hl⟩, ?_⟩
  rintro m σ' Hc ⟨s, hin, hm⟩
  cases m with
  | zero => cases hm
  | succ m =>
    unfold whileM at hm
    cases hb : c s with
    | none => rw [hb] at hm; cases hm
    | some b =>
      rw [hb] at hm
      refine hc s σ' Hc hin b hb Hc Gx.rfl _ fun H3 g3 => ?_
      cases b with
      | false =>
        have e : res = .inl s := (Option.some.inj (show some (Sum.inl s) = some res from hm)).symm
        exact ite_ff (hd s σ' Hc H3 e hin g3)
      | true =>
        refine ite_tt ?_
        cases hf : f s with
        | none => rw [hf] at hm; cases hm
        | some o =>
          have hm' : bra (fun s' => whileM c f m s') o = some res := by rw [hf] at hm; exact hm
          refine ⟨fun σ H => exists s', o = .inl s' ∧ In s' σ H, fun σ3 H4 hN => ?_, hs s o σ' Hc H3 hb hf (fun r er => ?_) hin g3⟩
          · obtain ⟨s', rfl, h3⟩ := hN
            exact ⟨m, by omega, s', h3, hm'⟩
          · subst er
            exact (Option.some.inj hm').symm

/-! defs -/
/-- what comes leans on tuples alone; a new list comes -/
def PSb {R : Type} [Rp R] (K : Fg) (m : List V -> Hp -> Option R -> Prop) : Sp := fun vs H Q _ => exists r, m vs H (some r) ∧ forall w H2, Gx H H2 -> rp K H2 w r -> Q w H2
def PSn {R : Type} [Rp R] (K : Fg) (m : List V -> Hp -> Option (List R) -> Prop) : Sp := fun vs H Q _ => exists r, m vs H (some r) ∧ forall p ws H2, H p = none -> Gx H H2 -> H2 p = some (.lst ws) -> Al (rp K H2) ws r -> Q (.ref p) H2
def A1 {A R : Type} [Rp A] (K : Fg) (f : A -> Option R) : List V -> Hp -> Option R -> Prop := fun vs H o => exists v x, vs = [v] ∧ rp K H v x ∧ f x = o
def A2 {A B R : Type} [Rp A] [Rp B] (K : Fg) (f : A -> B -> Option R) : List V -> Hp -> Option R -> Prop := fun vs H o => exists v w x y, vs = [v, w] ∧ rp K H v x ∧ rp K H w y ∧ f x y = o
def A3 {A B C R : Type} [Rp A] [Rp B] [Rp C] (K : Fg) (f : A -> B -> C -> Option R) : List V -> Hp -> Option R -> Prop := fun vs H o => exists v1 v2 v3 x y z, vs = [v1, v2, v3] ∧ rp K H v1 x ∧ rp K H v2 y ∧ rp K H v3 z ∧ f x y z = o
def A4 {A B C D R : Type} [Rp A] [Rp B] [Rp C] [Rp D] (K : Fg) (f : A -> B -> C -> D -> Option R) : List V -> Hp -> Option R -> Prop := fun vs H o => exists v1 v2 v3 v4 x y z w, vs = [v1, v2, v3, v4] ∧ rp K H v1 x ∧ rp K H v2 y ∧ rp K H v3 z ∧ rp K H v4 w ∧ f x y z w = o
def A5 {A B C D E R : Type} [Rp A] [Rp B] [Rp C] [Rp D] [Rp E] (K : Fg) (f : A -> B -> C -> D -> E -> Option R) : List V -> Hp -> Option R -> Prop := fun vs H o => exists v1 v2 v3 v4 v5 x y z w e, vs = [v1, v2, v3, v4, v5] ∧ rp K H v1 x ∧ rp K H v2 y ∧ rp K H v3 z ∧ rp K H v4 w ∧ rp K H v5 e ∧ f x y z w e = o
def o4 {A B C D R : Type} (f : A -> B -> C -> D -> Option R) (ma : Option A) (mb : Option B) (mc : Option C) (md : Option D) : Option R := ma.bind fun a => mb.bind fun b => mc.bind fun c => md.bind fun d => f a b c d
theorem o4s {A B C D R : Type} {f : A -> B -> C -> D -> Option R} {ma : Option A} {mb : Option B} {mc : Option C} {md : Option D} {r : R} (h : o4 f ma mb mc md = some r) : exists a b c d, ma = some a ∧ mb = some b ∧ mc = some c ∧ md = some d ∧ f a b c d = some r := by
  cases ma with
  | none => cases h
  | some a => cases mb with
    | none => cases h
    | some b => cases mc with
      | none => cases h
      | some c => cases md with
        | none => cases h
        | some d => exact ⟨a, b, c, d, rfl, rfl, rfl, rfl, h⟩
/-- the arguments: what they come to, read -/
def EvM {R : Type} (t : TA) (σ : L2.St) (H : Hp) (m : List V -> Hp -> Option R -> Prop) (o : Option R) : Prop := forall r, o = some r -> forall H1, Gx H H1 -> forall Q : List V -> Hp -> Prop, (forall vs H2, Gx H1 H2 -> m vs H2 (some r) -> Q vs H2) -> t σ H1 Q
variable {td tf : TE} {R : Type} {E' : Type} [Rp E']
theorem em1 {f : A -> Option R} {ma : Option A} (ha : EvB K ta σ H ma) : EvM (tCons ta tNil) σ H (A1 K f) (o1 f ma) := fun r hr H1 e Q q => by
  obtain ⟨x, e1, e3⟩ := o1s hr
  exact ha x e1 H1 e _ fun v H2 g2 r2 => q _ H2 g2 ⟨v, x, rfl, r2, e3⟩
theorem em2 {f : A -> B -> Option R} {ma : Option A} {mb : Option B} (ha : EvB K ta σ H ma) (hb : EvB K tb σ H mb) : EvM (tCons ta (tCons tb tNil)) σ H (A2 K f) (o2 f ma mb) := fun r hr H1 e Q q => by
  obtain ⟨x, y, e1, e2, e3⟩ := o2s hr
  exact ha x e1 H1 e _ fun v H2 g2 r2 => hb y e2 H2 (e.trans g2) _ fun w H3 g3 r3 => q _ H3 (g2.trans g3) ⟨v, w, x, y, rfl, Rp.mono g3 r2, r3, e3⟩
theorem em3 {f : A -> B -> C -> Option R} {ma : Option A} {mb : Option B} {mc : Option C} (ha : EvB K ta σ H ma) (hb : EvB K tb σ H mb) (hc : EvB K tc σ H mc) : EvM (tCons ta (tCons tb (tCons tc tNil))) σ H (A3 K f) (o3 f ma mb mc) := fun r hr H1 e Q q => by
  obtain ⟨x, y, z, e1, e2, e2', e3⟩ := o3s hr
  exact ha x e1 H1 e _ fun v H2 g2 r2 => hb y e2 H2 (e.trans g2) _ fun w H3 g3 r3 => hc z e2' H3 ((e.trans g2).trans g3) _ fun w3 H4 g4 r4 => q _ H4 ((g2.trans g3).trans g4) ⟨v, w, w3, x, y, z, rfl, Rp.mono (g3.trans g4) r2, Rp.mono g4 r3, r4, e3⟩
theorem em4 {f : A -> B -> C -> D -> Option R} {ma : Option A} {mb : Option B} {mc : Option C} {md : Option D} (ha : EvB K ta σ H ma) (hb : EvB K tb σ H mb) (hc : EvB K tc σ H mc) (hd : EvB K td σ H md) : EvM (tCons ta (tCons tb (tCons tc (tCons td tNil)))) σ H (A4 K f) (o4 f ma mb mc md) := fun r hr H1 e Q q => by
  obtain ⟨x, y, z, w0, e1, e2, e2', e2'', e3⟩ := o4s hr
  exact ha x e1 H1 e _ fun v H2 g2 r2 => hb y e2 H2 (e.trans g2) _ fun w H3 g3 r3 => hc z e2' H3 ((e.trans g2).trans g3) _ fun w3 H4 g4 r4 => hd w0 e2'' H4 (((e.trans g2).trans g3).trans g4) _ fun w4 H5 g5 r5 => q _ H5 (((g2.trans g3).trans g4).trans g5) ⟨v, w, w3, w4, x, y, z, w0, rfl, Rp.mono ((g3.trans g4).trans g5) r2, Rp.mono (g4.trans g5) r3, Rp.mono g5 r4, r5, e3⟩
theorem eb_call [Rp R] {m : List V -> Hp -> Option R -> Prop} {o : Option R} {t : TA} {E : XK} (h : EvM t σ H m o) : EvB K (tCall (PSb K m) [] E t) σ H o := fun r hr H1 e Q q =>
  h r hr H1 e _ fun vs H2 g2 hm => ⟨r, by rw [List.append_nil]; exact hm, fun w H3 g3 r3 => q w H3 (g2.trans g3) r3⟩
theorem en_call [Rp R] {m : List V -> Hp -> Option (List R) -> Prop} {o : Option (List R)} {t : TA} {E : XK} (h : EvM t σ H m o) : EvN K (tCall (PSn K m) [] E t) σ H o := fun r hr H1 e Q q =>
  h r hr H1 e _ fun vs H2 g2 hm => ⟨r, by rw [List.append_nil]; exact hm, fun p ws H3 hp g3 h3 r3 => q p ws H3 (g2.back hp) (g2.trans g3) h3 r3⟩

/-! the ends of a def -/
theorem sr_b {m : Option A} {x : A} (h : EvB K te σ H m) (hm : m = some x) (k : forall v H2, Gx H H2 -> rp K H2 v x -> X.rt v H2) : tSeq (tRet te) u X σ H := h x hm H Gx.rfl _ k
theorem sr_n {m : Option (List A)} {x : List A} (h : EvN K te σ H m) (hm : m = some x) (k : forall p vs H2, H p = none -> Gx H H2 -> H2 p = some (.lst vs) -> Al (rp K H2) vs x -> X.rt (.ref p) H2) : tSeq (tRet te) u X σ H := h x hm H Gx.rfl _ k
theorem sr_m {p : Addr} (h : σ[i]? = some (some (.ref p))) (k : X.rt (.ref p) H) : tSeq (tRet (tVar i)) u X σ H := ⟨_, h, k⟩
/-- a new list, to be changed -/
theorem st_newM [Im A] {m : Option (List A)} {x : List A} (h : EvN K te σ H m) (hm : m = some x) (a : At G H L) (k : forall p vs G2 H2, H p = none -> Gx G G2 -> Gx H H2 -> At G2 H2 ((p, .lst vs) :: L) -> Al (rp K G2) vs x -> u X (σ.set i (some (.ref p))) H2) : tSeq (tAsg te (gName i)) u X σ H :=
  h x hm H Gx.rfl _ fun p vs H2 hp g h2 r => by
    have a2 : At G H2 ((p, .lst vs) :: L) := by
      refine ⟨a.ex.trans g, List.nodup_cons.mpr ⟨a.fresh hp, a.nd⟩, fun q hq => ?_⟩
      rcases List.mem_cons.mp hq with rfl | hq
      · exact ⟨h2, a.ex.back hp, trivial⟩
      · exact (a.grow g).led q hq
    exact k p vs (hid H2 ((p, .lst vs) :: L)) H2 hp a2.gh g a2.hid (r.mono fun _ _ => Im.im a2.tx)
/-- a fold -/
def foldO {S I : Type} (f : S -> I -> Option S) : S -> List I -> Option S
  | s, [] => some s
  | s, x :: xs => (f s x).bind fun s' => foldO f s' xs
theorem foldO_loop {S I : Type} {f : S -> I -> Option S} : forall {xs : List I} {s r : S}, foldO f s xs = some r -> loopM (R := Empty) (fun s x => (f s x).map Sum.inl) s xs = some (.inl r)
  | [], s, r, h => by cases h; rfl
  | x :: xs, s, r, h => by
    unfold foldO at h
    unfold loopM
    cases hf : f s x with
    | none => rw [hf] at h; cases h
    | some s' =>
      rw [hf] at h
      exact foldO_loop (xs := xs) h
theorem fold_run {S I : Type} [Rp I] {J : It} {g : TG} {b : Bd I} {xs : List I} {Sh : Hp} {f : S -> I -> Option S} {s0 s1 : S} {E0 : Ends} {H2 : Hp} {E1 : L2.St -> Hp -> Prop} (wk : Wk K J xs Sh) (hl : foldO f s0 xs = some s1) (hg : TgOk K g b)
    (In : S -> L2.St -> Hp -> Prop) (hS : forall s σ' H', In s σ' H' -> Gx Sh H') (h0 : In s0 σ H2)
    (hs : forall s x s' σ' H' H'' σ2, x ∈ xs -> f s x = some s' -> In s σ' H' -> Gx H' H'' -> b x σ' H'' σ2 -> t1 { E0 with nx := In s', ct := In s', bk := E1 } σ2 H'')
    (hd : forall σ' H', In s1 σ' H' -> E1 σ' H') :
    exists W : Nat -> Nat -> L2.St -> Hp -> Prop, (exists m, W 0 m σ H2) ∧ forall i m σ H, W i m σ H ->
      (J.stop i H ∧ E1 σ H) ∨ (J.go i H ∧ exists N : L2.St -> Hp -> Prop, (forall σ' H', N σ' H' -> exists m', m' < m ∧ W (i + 1) m' σ' H') ∧ forall x H', J.yld i H x H' -> g x σ H' fun σ2 H2 => t1 { E0 with nx := N, ct := N, bk := E1 } σ2 H2) := by
  refine ⟨fun i m σ H => m = xs.length - i ∧ i ≤ xs.length ∧ exists s, In s σ H ∧ foldO f s (xs.drop i) = some s1, ⟨xs.length, by simp, Nat.zero_le _, s0, h0, hl⟩, ?_⟩
  rintro i m σ' Hc ⟨rfl, hle, s, hin, hm⟩
  have gS := hS _ _ _ hin
  obtain ⟨go, stop, yld⟩ := wk
  by_cases hlt : i < xs.length
  · rw [List.drop_eq_getElem_cons hlt] at hm
    cases hf : f s xs[i] with
    | none => unfold foldO at hm; rw [hf] at hm; cases hm
    | some s' =>
      have hm' : foldO f s' (xs.drop (i + 1)) = some s1 := by
        unfold foldO at hm; rw [hf] at hm; exact hm
      refine .inr ⟨go i Hc hlt gS, In s', fun σ3 H3 hN => ⟨xs.length - (i + 1), by omega, rfl, hlt, s', hN, hm'⟩, fun v Hy hy => ?_⟩
      obtain ⟨gy, ry⟩ := yld i Hc v Hy _ gS (List.getElem?_eq_getElem hlt) hy
      exact hg _ v σ' Hy _ ry fun σ2 hσ => hs s xs[i] s' σ' Hc Hy σ2 (List.getElem_mem hlt) hf hin gy hσ
  · have hi : i = xs.length := by omega
    subst hi
    rw [List.drop_length] at hm
    cases hm
    exact .inl ⟨stop Hc gS, hd σ' Hc hin⟩
/-- behind a loop that may leave -/
def fin {S R : Type} (k : S -> Option R) : S ⊕ R -> Option R
  | .inl s => k s
  | .inr r => some r
def braR {S S' R : Type} (k : S -> Option (S' ⊕ R)) : S ⊕ R -> Option (S' ⊕ R)
  | .inl s => k s
  | .inr r => some (.inr r)
theorem bnd {A B : Type} {m : Option A} {f : A -> Option B} {r : B} (h : m.bind f = some r) : exists a, m = some a ∧ f a = some r := o1s h
end
end Pu

set_option Elab.async false
set_option linter.all false
set_option maxRecDepth 100000
set_option maxHeartbeats 1000000
namespace Pu
open Pu.Rp (rp)
open PySem PySem.Spec PyProof.Rows L2
/-! zip of three lists -/
def Itz3 (K : Fg) (a b c : Addr) : It :=
  ⟨fun i H => exists (xs ys zs : List V) (x y z : V), (SqL K H a xs ∧ SqL K H b ys ∧ SqL K H c zs) ∧ xs[i]? = some x ∧ ys[i]? = some y ∧ zs[i]? = some z,
   fun i H v H' => exists T x y z, v = .ref T ∧ H T = none ∧ H' = upd H T (.tup [x, y, z]) ∧ (forall xs, SqL K H a xs -> xs[i]? = some x) ∧ (forall ys, SqL K H b ys -> ys[i]? = some y) ∧ (forall zs, SqL K H c zs -> zs[i]? = some z),
   fun i H => exists xs ys zs : List V, (SqL K H a xs ∧ SqL K H b ys ∧ SqL K H c zs) ∧ (xs.length ≤ i ∨ ys.length ≤ i ∨ zs.length ≤ i) ∧ i ≤ xs.length ∧ i ≤ ys.length ∧ i ≤ zs.length⟩
abbrev Tn3 (a b c z TI TO i1 i2 i3 : Addr) : Nat -> Heap -> Prop := fun i h => IsZip h z TI TO .none ∧ IsTupOf3 h TI (.ref i1) (.ref i2) (.ref i3) ∧ (exists x y u, IsTupOf3 h TO x y u) ∧ h.IsListIter i1 a i ∧ h.IsListIter i2 b i ∧ h.IsListIter i3 c i
theorem tn3_ob {a b c z TI TO i1 i2 i3 : Addr} {i : Nat} {h : Heap} (t : Tn3 a b c z TI TO i1 i2 i3 i h) : forall d, d ∈ [z, TI, TO, i1, i2, i3] -> exists o, h.get? d = some o ∧ forall v, o.data ≠ .cell v := fun d hd => by
  obtain ⟨hz, hTI, ⟨x, y, u, hTO⟩, ⟨o1, e1, _, d1⟩, ⟨o2, e2, _, d2⟩, ⟨o3, e3, _, d3⟩⟩ := t
  have e' : d = z ∨ d = TI ∨ d = TO ∨ d = i1 ∨ d = i2 ∨ d = i3 := by simpa using hd
  rcases e' with q | q | q | q | q | q <;> rw [q]
  · exact ⟨_, hz, fun v q => nomatch q⟩
  · exact ⟨_, hTI, fun v q => nomatch q⟩
  · exact ⟨_, hTO, fun v q => nomatch q⟩
  · exact ⟨o1, e1, fun v q => by rw [d1] at q; cases q⟩
  · exact ⟨o2, e2, fun v q => by rw [d2] at q; cases q⟩
  · exact ⟨o3, e3, fun v q => by rw [d3] at q; cases q⟩
theorem turn_zip3 {P : Program} {w : World} {K : Fg} {elts : List Expr} {kk : Nat} {tpos : Pos} {a b c z TI TO i1 i2 i3 : Addr} (S : ZipSep3 z TI TO i1 i2 i3 [i1, a] [i2, b] [i3, c]) (ha : a ≠ i1) (hb : b ≠ i2) (hc : c ≠ i3) :
    Turn P w K (.Tuple elts kk tpos) (Itz3 K a b c) [z, TI, TO, i1, i2, i3] z (Tn3 a b c z TI TO i1 i2 i3) where
  mem := by simp
  obj := fun i h st => tn3_ob st
  keep := fun i h h' st k => by
    obtain ⟨hz, hTI, ⟨x, y, u, hTO⟩, h1, h2, h3⟩ := st
    exact ⟨k z (by simp) _ hz, k TI (by simp) _ hTI, ⟨x, y, u, k TO (by simp) _ hTO⟩, h1.at fun o q => k i1 (by simp) o q, h2.at fun o q => k i2 (by simp) o q, h3.at fun o q => k i3 (by simp) o q⟩
  item := by
    intro X hP hw hK hcalm i pins s σ H E I hf st hg
    subst hP hw hK
    obtain ⟨hz, hTI, hTO, h1, h2, h3⟩ := id st
    obtain ⟨xs, ys, zs, x, y, u, ⟨hqx, hqy, hqz⟩, hx, hy, hu⟩ := hg
    obtain ⟨its, rv, p, _⟩ := I.list hqx
    obtain ⟨its2, rv2, p2, _⟩ := I.list hqy
    obtain ⟨its3, rv3, p3, _⟩ := I.list hqz
    have hh : X.A.in1.handled = none := by simpa using I.ok.hd hcalm
    have W := GoesN.zip3 (prog := X.prog) (w := X.w) (A := X.A) (elts := elts) (x1 := kk) (pos := tpos) S (Draws.list hh i1 a ha its.toArray) (Draws.list hh i2 b hb its2.toArray) (Draws.list hh i3 c hc its3.toArray)
    have l1 : i < its.toArray.size := by
      have := (List.getElem?_eq_some_iff.mp hx).1
      rw [rv.length] at this
      simpa using this
    have l2 : i < its2.toArray.size := by
      have := (List.getElem?_eq_some_iff.mp hy).1
      rw [rv2.length] at this
      simpa using this
    have l3 : i < its3.toArray.size := by
      have := (List.getElem?_eq_some_iff.mp hu).1
      rw [rv3.length] at this
      simpa using this
    have hall : forall d, d ∈ [z, TI, TO, i1, i2, i3] -> d < s.heap.objs.size := fun d hd => by
      obtain ⟨o, e, _⟩ := tn3_ob st d hd
      exact Heap.lt_size e
    refine thn (W.goes i s (fun v s2 => exists x' H', Inv X pins σ H' s2 ∧ RelV x' v ∧ (Itz3 X.K a b c).yld i H x' H' ∧ Tn3 a b c z TI TO i1 i2 i3 (i + 1) s2.heap ∧ forall d, d ∈ [z, TI, TO, i1, i2, i3] -> H' d = none) E (by omega) ⟨hz, hTI, hTO, ⟨h1, p.isList⟩, ⟨h2, p2.isList⟩, ⟨h3, p3.isList⟩⟩ fun v h' tk hY st' hk htk => ?_) fun r s1 hr => hr
    obtain ⟨T, x1, y1, u1, rfl, hT, q1, q2, q3, hTt⟩ := hY
    obtain ⟨hz', hTI', hTO', ⟨h1', _⟩, ⟨h2', _⟩, ⟨h3', _⟩⟩ := st'
    obtain ⟨v1, e1, r1⟩ := rv.get hx
    obtain ⟨v2, e2, r2⟩ := rv2.get hy
    obtain ⟨v3, e3, r3⟩ := rv3.get hu
    have f1 : v1 = x1 := by
      have : its.toArray[i]? = some v1 := by simpa using e1
      rw [q1] at this; exact (Option.some.inj this).symm
    have f2 : v2 = y1 := by
      have : its2.toArray[i]? = some v2 := by simpa using e2
      rw [q2] at this; exact (Option.some.inj this).symm
    have f3 : v3 = u1 := by
      have : its3.toArray[i]? = some v3 := by simpa using e3
      rw [q3] at this; exact (Option.some.inj this).symm
    subst f1 f2 f3
    have new : ObjOk X.prog X.w (upd H T (.tup [x, y, u])) h' T (.tup [x, y, u]) := ⟨by show 3 ≤ sizeLine; decide, [v1, v2, v3], .cons r1 (.cons r2 (.cons r3 .nil)), hTt⟩
    have I1 : Inv X pins σ (upd H T (.tup [x, y, u])) { s with heap := h', toks := tk } :=
      I.turnedNew (t' := tk) (ch := [z, TI, TO, i1, i2, i3]) (fun d o hd q => hk d o (fun z' => hd (by
        simp only [List.mem_cons, List.not_mem_nil, or_false] at z' ⊢
        rcases z' with e | e | e | e | e <;> simp [e])) q) hf hT new
    refine ⟨.ref T, _, I1, rfl, ⟨T, x, y, u, rfl, I.hok.fresh hT, rfl, fun l hl => by rw [I.list_inj hl hqx]; exact hx, fun l hl => by rw [I.list_inj hl hqy]; exact hy, fun l hl => by rw [I.list_inj hl hqz]; exact hu⟩, ⟨hz', hTI', hTO', h1', h2', h3'⟩, fun d hd => ?_⟩
    rw [upd_ne (Nat.ne_of_lt (Nat.lt_of_lt_of_le (hall d hd) hT))]
    exact (hf d hd).1
  done := by
    intro X hP hw hK hcalm i pins s σ H E I hf st hg
    subst hP hw hK
    obtain ⟨hz, hTI, hTO, h1, h2, h3⟩ := id st
    obtain ⟨xs, ys, zs, ⟨hqx, hqy, hqz⟩, hend, b1, b2, b3⟩ := hg
    obtain ⟨its, rv, p, _⟩ := I.list hqx
    obtain ⟨its2, rv2, p2, _⟩ := I.list hqy
    obtain ⟨its3, rv3, p3, _⟩ := I.list hqz
    have hh : X.A.in1.handled = none := by simpa using I.ok.hd hcalm
    have W := GoesN.zip3 (prog := X.prog) (w := X.w) (A := X.A) (elts := elts) (x1 := kk) (pos := tpos) S (Draws.list hh i1 a ha its.toArray) (Draws.list hh i2 b hb its2.toArray) (Draws.list hh i3 c hc its3.toArray)
    have hi : i = min (min its.toArray.size its2.toArray.size) its3.toArray.size := by
      rw [List.size_toArray, List.size_toArray, List.size_toArray, ← rv.length, ← rv2.length, ← rv3.length]
      omega
    refine W.stops s _ E (hi ▸ ⟨hz, hTI, hTO, ⟨h1, p.isList⟩, ⟨h2, p2.isList⟩, ⟨h3, p3.isList⟩⟩) fun h' tk hk htk => ?_
    exact I.turnedL (t' := tk) (ch := [z, TI, TO, i1, i2, i3]) (fun d o hd q => hk d o (fun z' => hd (by
        simp only [List.mem_cons, List.not_mem_nil, or_false] at z' ⊢
        rcases z' with e | e | e | e | e <;> simp [e])) q) hf
  self := fun A i s Q E st h => wpAny_pyIter_zip st.1 h
def iZip3 (K : Fg) (ta : TA) : TI := fun σ H R => ta σ H fun vs H1 => exists a b c xs ys zs, vs = [.ref a, .ref b, .ref c] ∧ (SqL K H1 a xs ∧ SqL K H1 b ys ∧ SqL K H1 c zs) ∧ R (Itz3 K a b c) H1
theorem pi_zip3 {X : Cx} {e e2 e3 : Expr} {ta : TA} {p pos tpos : Pos} {elts : List Expr} {kk : Nat} (hg : Gl X "zip") (hm : X.mg "zip" = none) (ha : PA X [e, e2, e3] ta)
    (hs : starEach [e, e2, e3] X.env = (false, eval e X.env) :: starEach [e2, e3] X.env := by rfl) (hpl : (backTo pos (starEach [e2, e3] X.env)).any (·.1) = false := by rfl) :
    PI X (.Tuple elts kk tpos) (.Call (.Name "zip" p) [e, e2, e3] [] pos) (iZip3 X.K ta) := by
  refine ⟨fun pins s σ H R I h => ?_⟩
  refine Call_ (ld_blt I hg hm PyProof.Rows.boot_zip (PyProof.Rows.callWith_type1 (thn (ha.run pos pins s σ H _ I h) fun us s1 q => ?_) hs hpl))
  obtain ⟨vs, H1, I1, r1, a, b, c, xs, ys, zs, ex, ⟨hqx, hqy, hqz⟩, q⟩ := q
  subst ex
  obtain ⟨u1, us1, rfl, ru1, r1⟩ : exists u1 us1, us = u1 :: us1 ∧ RelV (.ref a) u1 ∧ Vals [.ref b, .ref c] us1 := by cases r1 with | cons r rr => exact ⟨_, _, rfl, r, rr⟩
  obtain ⟨u2, us2, rfl, ru2, r1⟩ : exists u1 us2, us1 = u1 :: us2 ∧ RelV (.ref b) u1 ∧ Vals [.ref c] us2 := by cases r1 with | cons r rr => exact ⟨_, _, rfl, r, rr⟩
  obtain ⟨u3, us3, rfl, ru3, r1⟩ : exists u1 us3, us2 = u1 :: us3 ∧ RelV (.ref c) u1 ∧ Vals [] us3 := by cases r1 with | cons r rr => exact ⟨_, _, rfl, r, rr⟩
  cases r1
  cases ru1; cases ru2; cases ru3
  obtain ⟨its, rv, p1, _⟩ := I1.list hqx
  obtain ⟨its2, rv2, p2, _⟩ := I1.list hqy
  obtain ⟨its3, rv3, p3, _⟩ := I1.list hqz
  have la : a < s1.heap.objs.size := p1.lt
  have lb : b < s1.heap.objs.size := p2.lt
  have lc : c < s1.heap.objs.size := p3.lt
  refine zip_begins3 (begins_list a its.toArray) (begins_list b its2.toArray) (begins_list c its3.toArray) p1.isList p2.isList p3.isList fun h' hz hTI hTO g1 g2 g3 hsz hk => wpAny_pyIter_zip hz ?_
  have I2 : Inv X pins σ H1 { s1 with heap := h' } := I1.kept (t' := s1.toks) hk
  have sep := zip_sep3 (N := s1.heap.objs.size) (fp1 := [a]) (fp2 := [b]) (fp3 := [c]) (by simpa using la) (by simpa using lb) (by simpa using lc)
  have n : forall k, s1.heap.objs.size ≤ s1.heap.objs.size + k := fun k => Nat.le_add_right _ k
  refine ⟨s1.heap.objs.size + 5, [s1.heap.objs.size + 5, s1.heap.objs.size + 3, s1.heap.objs.size + 4, s1.heap.objs.size, s1.heap.objs.size + 1, s1.heap.objs.size + 2], _, _, H1, rfl, I2,
    turn_zip3 (a := a) (b := b) (c := c) sep (Nat.ne_of_lt la) (Nat.ne_of_lt (Nat.lt_succ_of_lt lb)) (Nat.ne_of_lt (Nat.lt_of_lt_of_le lc (n 2))), ⟨hz, hTI, ⟨_, _, _, hTO⟩, ⟨_, g1, rfl, rfl⟩, ⟨_, g2, rfl, rfl⟩, ⟨_, g3, rfl, rfl⟩⟩, fun d hd => ?_, q⟩
  have hle : s1.heap.objs.size ≤ d := by
    simp only [List.mem_cons, List.not_mem_nil, or_false] at hd
    rcases hd with e | e | e | e | e | e <;> rw [e] <;> first | exact Nat.le_refl _ | exact n _
  exact I1.fpOk hle (I1.hok.fresh hle)
/-! set of a list of ints -/
def rSetL1 (w : World) : List V -> Hp -> VK -> Prop := fun xs H Q => exists (l : Addr) (ns : List Int), xs = [.ref l] ∧ H l = some (.lst (ns.map V.int)) ∧ ns.length ≤ 1000 ∧ forall (a : Addr) (c : Nat), H a = none -> c ≤ ns.length -> Q (.ref a) (upd H a (SetO w a (fun j => decide (j ∈ ns)) c))
end Pu

set_option Elab.async false
set_option linter.all false
set_option maxRecDepth 100000
set_option maxHeartbeats 4000000
namespace Pu
open Pu.Rp (rp)
open PySem PySem.Spec PyProof.Rows L2
/-- the empty set's object -/
abbrev noS (w : World) : Obj := { cls := .type "set", dict := none, data := .set #[] 0 (.fresh 0 0 (!w.params.followText "set-order")) }
abbrev hpS (w : World) (s : Shared) : Heap := s.heap.push (noS w)
/-- what set(..) comes to -/
def SetEnd (w : World) (s : Shared) (ns : List Int) (r : Value) (s2 : Shared) : Prop := r = .none ∧ exists h' tk c, s2 = { s with heap := h', toks := tk } ∧ SetR w h' s.heap.objs.size (fun j => decide (j ∈ ns)) c ∧ c ≤ ns.length ∧ forall b o, s.heap.get? b = some o -> h'.get? b = some o
theorem setL_val {items : Array Value} {ns : List Int} (hit : IntsAre items.toList ns) (hz : items.size = ns.length) : forall (i : Nat) (v : Value), items[i]? = some v -> exists k t, ns[i]? = some k ∧ v = .int k t := fun i v hv => by
  have hi : i < ns.length := hz ▸ (Array.getElem?_eq_some_iff.mp hv).1
  obtain ⟨t, e⟩ := PyProof.Rows.IntsAre.int_at hit i v (by simpa using hv)
  refine ⟨ns[i], t, List.getElem?_eq_getElem hi, e.trans ?_⟩
  rw [List.getD_eq_getElem?_getD, List.getElem?_eq_getElem hi]
  rfl
section
variable {P : Program} {w : World} {A : Around} {E : Value → Shared → Prop} {s : Shared}
theorem setL_init {l : Addr} {items : Array Value} (ns : List Int) {A3 : Around} (hh : A3.in1.handled = none) (hl : s.heap.IsList l items) (hit : IntsAre items.toList ns) (hz : items.size = ns.length) (hb : ns.length + 1 < scanBound) :
    codeAny (model P w) A3 (.builtin "set.update.loop" ⟨[.ref s.heap.objs.size, .ref (hpS w s).objs.size], []⟩) (wants (SetEnd w s ns) E) { s with heap := (hpS w s).push { cls := .type "list_iterator", data := .fields #[.ref l, .int 0 0] } } := by
  have hlt : l < s.heap.objs.size := by
    obtain ⟨o, ho, _⟩ := id hl
    exact Heap.lt_size ho
  have z1 : (hpS w s).objs.size = s.heap.objs.size + 1 := Heap.size_push ..
  have hl1 : (hpS w s).IsList l items := hl.push _
  have ne1 : l ≠ (hpS w s).objs.size := by rw [z1]; exact Nat.ne_of_lt (Nat.lt_succ_of_lt hlt)
  have nf : s.heap.objs.size ∉ [(hpS w s).objs.size, l] := by
    rw [z1]
    intro z
    simp only [List.mem_cons, List.not_mem_nil, or_false] at z
    rcases z with z | z
    · exact absurd z (Nat.ne_of_lt (Nat.lt_succ_self _))
    · exact absurd z (Nat.ne_of_gt hlt)
  have g0 : (hpS w s).get? s.heap.objs.size = some (noS w) := Heap.get?_push_size _ rfl
  refine set_update_ints ((Walks.list hh _ l ne1 items).toS) s.heap.objs.size nf ns hz hb (setL_val hit hz) (items.size - 0) 0 _ (by omega) (Nat.zero_le _) ⟨⟨_, Heap.get?_push_size _ rfl, rfl, rfl⟩, hl1.push _⟩
    ⟨0, Nat.le_refl 0, setR_new_at (Heap.get?_push_of_some _ g0)⟩ fun s' c hm hc hS => ?_
  obtain ⟨h', g2, d', tk', os'⟩ := s'
  obtain rfl : g2 = s.gens := hm.gens
  obtain rfl : d' = s.drawn := hm.drawn
  obtain rfl : os' = s.os := hm.os
  show SetEnd w s ns _ _
  refine ⟨rfl, h', tk', c, rfl, hS, by omega, fun b o e => hm.heap b o (fun z => ?_) (Heap.get?_push_of_some _ (Heap.get?_push_of_some _ e))⟩
  have hbl : b < s.heap.objs.size := Heap.lt_size e
  simp only [List.mem_cons, List.not_mem_nil, or_false] at z
  rcases z with z | z
  · exact absurd hbl (by rw [z]; exact Nat.lt_irrefl _)
  · rw [z1] at z
    exact absurd hbl (by rw [z]; exact Nat.not_lt_of_le (Nat.le_succ _))
set_option maxHeartbeats 8000000 in
theorem call_setL {l : Addr} {items : Array Value} (ns : List Int) {Q : Value → Shared → Prop} (hh : A.handled = none) (hl : s.heap.IsList l items) (hit : IntsAre items.toList ns) (hb : ns.length + 1 < scanBound)
    (h : forall (h' : Heap) (tk c : Nat), SetR w h' s.heap.objs.size (fun j => decide (j ∈ ns)) c -> c ≤ ns.length -> (forall b o, s.heap.get? b = some o -> h'.get? b = some o) -> Q (.ref s.heap.objs.size) { s with heap := h', toks := tk }) :
    wpAny (model P w) A (call (.type "set") [.ref l]) Q E s := by
  have hz : items.size = ns.length := by simpa using IntsAre.length hit
  obtain ⟨c0, tl, hmro⟩ := F.called_set.mro
  have k1 := F.called_set.made
  have k2 := F.called_set.sub
  have k3 := F.called_set.notType
  have k4 := F.called_set.canCreate
  have k5 := F.typeCall_set_1 (.ref l)
  refine wpAny_call (codeAny_of_tree (show wpAny _ _ (callAny (.type "set") _) _ _ _ from wpAny_pure ⟨Code.quiet_builtin _ (by decide +kernel), codeAny_builtin F.entry_type_call ?_⟩))
  rw [Around.under_plain (weight_type_call_type "set" [.ref l] []) rfl]
  repeat (any_goals (first | assumption | wp_step))
  refine codeAny_mono (code_set_led1 (.ref l) (E := E) (Q₁ := fun obj s1 => obj = .ref s.heap.objs.size ∧ s1 = { s with heap := hpS w s }) ⟨rfl, rfl⟩) fun r s1 hr => ?_
  match r, hr with
  | .ok (.ret obj), ⟨e1, e2⟩ =>
    subst e1 e2
    have hT : Shared.TypeIs { s with heap := hpS w s } (.ref s.heap.objs.size) "set" := ⟨noS w, Heap.get?_push_size _ rfl, rfl⟩
    have k6 := F.called_set.init.lookup
    have k7 := F.called_set.init.bind (.ref s.heap.objs.size)
    repeat (any_goals (first | assumption | wp_step))
    refine codeAny_mono (codeAny_call_builtin (R := wants (SetEnd w s ns) E) F.called_set.init.plain F.entry_set_init (check_set_init_1 hT ?_)) fun r2 s2 hr2 => ?_
    · have hl1 : (hpS w s).IsList l items := hl.push _
      obtain ⟨ol, hol, hcl, nl, hdl⟩ := id hl1
      obtain ⟨ocls, odict, odata, oslots⟩ := ol
      simp only at hcl hdl
      subst hcl; subst hdl
      have j1 := F.sub_list_set
      have j2 := F.sub_list_frozenset
      have j3 : (Value.type "list" == Value.type "dict") = false := by decide
      unfold Builtin.«set.__init__» noKeywords Builtin.Frozenset.updateFrom
      generalize hPI : pyIter = PI
      wp_walk
      subst hPI
      refine wpAny_pyIter_list hl1 (wpAny_bind (wpAny_runValue ?_))
      refine codeAny_mono (setL_init (P := P) (w := w) (E := E) (s := s) ns (by simp [hh]) hl hit hz hb) fun r3 s3 hr3 => ?_
      match r3, hr3 with
      | .ok (.ret v), hr3 =>
        obtain ⟨rfl, h3⟩ := hr3
        exact wpAny_pure (wpAny_pure ⟨rfl, h3⟩)
      | .error e, hr3 => exact hr3
      | .ok .next, hr3 => exact hr3.elim
      | .ok .brk, hr3 => exact hr3.elim
      | .ok .cont, hr3 => exact hr3.elim
    · match r2, hr2 with
      | .ok (.ret v), hr2 =>
        obtain ⟨rfl, h', tk, c, rfl, hS, hc, hk⟩ := hr2
        repeat (any_goals (first | assumption | wp_step))
        exact h _ _ _ hS hc hk
      | .error e, hr2 => exact hr2
      | .ok .next, hr2 => exact hr2.elim
      | .ok .brk, hr2 => exact hr2.elim
      | .ok .cont, hr2 => exact hr2.elim
  | .error e, hr => exact hr
  | .ok .next, hr => exact hr.elim
  | .ok .brk, hr => exact hr.elim
  | .ok .cont, hr => exact hr.elim
end
section
variable {X : Cx}
theorem cr_setL (hc : X.calm = true) : CallR X (.type "set") (rSetL1 X.w) := by
  intro pins s σ H vs us Q I r h
  obtain ⟨l, ns, rfl, hl, hz, q⟩ := h
  rw [Vals.ref1 r]
  obtain ⟨its, rv, p, _⟩ := I.list (SqL.of hl)
  refine call_setL ns (I.ok.hd hc) p.isList (by simpa using rv.ints) (by unfold scanBound; omega) fun h' tk c R hcl hk => ?_
  have hn : H s.heap.objs.size = none := I.hok.fresh (Nat.le_refl _)
  exact ⟨.ref _, _, I.laid (t' := tk) hk (Nat.le_refl _) (setO_new R), rfl, q _ c hn hcl⟩
end
end Pu

set_option Elab.async false
set_option linter.all false
set_option maxRecDepth 100000
namespace Pu
open Pu.Rp (rp)
open PySem PySem.Spec PyProof.Rows L2
/-! xs[lo:hi:st], st a written number above 0 -/
def tSl3 (te : TE) (tl th : TO) (st : Nat) : TE := fun σ H Q => te σ H fun x H1 => tl σ H1 fun l H2 => th σ H2 fun u H3 => exists a xs, x = .ref a ∧ H3 a = some (.lst xs) ∧
  forall p, H3 p = none -> Q (.ref p) (upd H3 p (.lst ((sliceRange (sliceBounds l u (some (st : Int)) xs.length).1 (sliceBounds l u (some (st : Int)) xs.length).2.1 (sliceBounds l u (some (st : Int)) xs.length).2.2).filterMap (xs[·]?))))
theorem vals_pick {vs : List V} {us : List Value} (r : Vals vs us) : forall ks : List Nat, Vals (ks.filterMap (vs[·]?)) (ks.filterMap (us[·]?))
  | [] => .nil
  | k :: ks => by
    have ih := vals_pick r ks
    cases e : vs[k]? with
    | none =>
      have e2 := r.none_of e
      rw [List.filterMap_cons_none e, List.filterMap_cons_none e2]
      exact ih
    | some v =>
      obtain ⟨u, hu, ru⟩ := r.get e
      rw [List.filterMap_cons_some e, List.filterMap_cons_some hu]
      exact .cons ru ih
theorem pe_slice3 {X : Cx} {e : Expr} {lo hi : Option Expr} {te : TE} {tl th : TO} {n : Nat} {k : Nat} {p1 p2 pos : Pos} (hn : n ≠ 0) (he : PE X e te) (hl : PO X lo tl) (hh : PO X hi th) : PE X (.Subscript e (.Slice lo hi (some (.Constant (.int (n : Int)) k p1)) p2) pos) (tSl3 te tl th n) := by
  refine ⟨fun pins s σ H Q I h => ?_⟩
  refine Subscript_ (thn (he.run pins s σ H _ I h) fun v s1 ⟨x, H1, I1, r1, q1⟩ => ?_)
  have hst : PO X (some (.Constant (.int (n : Int)) k p1)) (tPart (tC (.int (n : Int)))) := po_some pe_int
  refine wpAny_Slice (thn (hl.run pins s1 σ H1 _ I1 q1) fun vl s2 ⟨l, H2, I2, pl, q2⟩ => thn (hh.run pins s2 σ H2 _ I2 q2) fun vu s3 ⟨u, H3, I3, pu, q3⟩ => ?_)
  refine thn (hst.run pins s3 σ H3 (fun o H4 => o = some (n : Int) ∧ H4 = H3) I3 ⟨_, rfl, rfl, rfl⟩) fun vs s4 ⟨o, H4, I4, ps, eo, e4⟩ => ?_
  subst eo e4
  obtain ⟨a, xs, ex, hx, q⟩ := q3
  subst ex
  cases r1
  have I5 : Inv X pins σ H4 { s4 with heap := s4.heap.push { cls := .type "slice", data := .fields #[vl, vu, vs] } } := I4.kept (t' := s4.toks) fun b ob q => Heap.get?_push_of_some _ q
  obtain ⟨its, r, ht, hz⟩ := I5.list (SqL.of hx)
  have hsl : (s4.heap.push { cls := .type "slice", data := .fields #[vl, vu, vs] }).IsSliceOf s4.heap.objs.size vl vu vs := Heap.IsSliceOf.new ..
  refine tail_any (ops := [.ref a, .ref s4.heap.objs.size]) ht.isList.typeIs (PySem.slot_list_getitem.lookup) ?_ (by with_unfolding_all rfl)
  have hz2 : its.toArray.size ≤ sizeLine := by rw [List.size_toArray, ← r.length]; exact hz
  refine wpAny_getItem_list_slice ht.isList hsl pl pu ps (fun z => hn (by have := Option.some.inj z; omega)) ?_ hz2
  have hl2 : its.length = xs.length := r.length.symm
  have epk : slicePick its.toArray l u (some (n : Int)) = ((sliceRange (sliceBounds l u (some (n : Int)) xs.length).1 (sliceBounds l u (some (n : Int)) xs.length).2.1 (sliceBounds l u (some (n : Int)) xs.length).2.2).filterMap (its[·]?)).toArray := by
    unfold slicePick
    rw [List.size_toArray, hl2]
    congr 2
    funext i
    simp
  have hsz := slicePick_size_le its.toArray l u (some (n : Int))
  rw [epk] at hsz ⊢
  have rv := vals_pick r (sliceRange (sliceBounds l u (some (n : Int)) xs.length).1 (sliceBounds l u (some (n : Int)) xs.length).2.1 (sliceBounds l u (some (n : Int)) xs.length).2.2)
  refine ⟨.ref _, _, I5.laid (t' := s4.toks) (fun b ob q => Heap.get?_push_of_some _ q) (Nat.le_refl _) ?_, rfl, q _ (I5.hok.fresh (Nat.le_refl _))⟩
  exact ⟨by rw [rv.length]; rw [List.size_toArray] at hsz; exact Nat.le_trans hsz hz2, _, 0, rv, Heap.get?_push_size _ rfl⟩
/-- what a slice with a step picks -/
def stepM {A : Type} (xs : List A) (lo hi : Option Int) (st : Nat) : List A := (sliceRange (sliceBounds lo hi (some (st : Int)) xs.length).1 (sliceBounds lo hi (some (st : Int)) xs.length).2.1 (sliceBounds lo hi (some (st : Int)) xs.length).2.2).filterMap (xs[·]?)
theorem al_pick {A : Type} {F : V -> A -> Prop} {vs : List V} {xs : List A} (r : Al F vs xs) : forall ks : List Nat, Al F (ks.filterMap (vs[·]?)) (ks.filterMap (xs[·]?))
  | [] => trivial
  | k :: ks => by
    have ih := al_pick r ks
    cases e : vs[k]? with
    | none =>
      have h1 := List.getElem?_eq_none_iff.mp e
      have e2 : xs[k]? = none := List.getElem?_eq_none_iff.mpr (by rw [← r.len]; exact h1)
      rw [List.filterMap_cons_none e, List.filterMap_cons_none e2]
      exact ih
    | some v =>
      obtain ⟨x, hx, rx⟩ := r.getV e
      rw [List.filterMap_cons_some e, List.filterMap_cons_some hx]
      exact ⟨rx, ih⟩
section
variable {K : Fg} {A B C D : Type} [Rp A] [Rp B] [Rp C] [Rp D]
variable {σ : L2.St} {G G' H H' : Hp} {L : Led} {M : List Addr} {te ta tb tc : TE} {tt tu : TT}
theorem en_sl3 {tl th : TO} {ma : Option (List A)} {ml mh : Option (Option Int)} {n : Nat} (ha : EvB K te σ H ma) (hl : EvP tl σ H ml) (hh : EvP th σ H mh) : EvN K (tSl3 te tl th n) σ H (o3 (fun a l h => some (stepM a l h n)) ma ml mh) := fun x hx H1 e Q q => by
  obtain ⟨a, l, h, e1, e2, e3, e4⟩ := o3s hx
  cases e4
  refine ha a e1 H1 e _ fun v H2 g2 r2 => hl l e2 H2 (e.trans g2) _ fun H3 g3 => hh h e3 H3 ((e.trans g2).trans g3) _ fun H4 g4 => ?_
  have g5 := (g2.trans g3).trans g4
  obtain ⟨p, vs, rfl, h2, h3⟩ := Rp.mono (g3.trans g4) r2
  have r4 : Al (rp K H4) ((sliceRange (sliceBounds l h (some (n : Int)) vs.length).1 (sliceBounds l h (some (n : Int)) vs.length).2.1 (sliceBounds l h (some (n : Int)) vs.length).2.2).filterMap (vs[·]?)) (stepM a l h n) := by
    unfold stepM
    rw [h3.len]
    exact al_pick h3 _
  exact ⟨p, vs, rfl, h2, fun p' hp => q p' _ _ (g5.back hp) (g5.trans (Gx.new hp)) upd_same (r4.mono fun _ _ => Rp.mono (Gx.new hp))⟩
/-- a slice of the script -/
theorem en_slS {tl th : TO} {ma : Option Scr} {ml mh : Option (Option Int)} (ha : EvB K te σ H ma) (hl : EvP tl σ H ml) (hh : EvP th σ H mh) : EvN K (tSl (rSlL K) te tl th) σ H (o3 (fun a l h => some (cutM a.l l h)) ma ml mh) := fun x hx H1 e Q q => by
  obtain ⟨a, l, h, e1, e2, e3, e4⟩ := o3s hx
  cases e4
  refine ha a e1 H1 e _ fun v H2 g2 r2 => hl l e2 H2 (e.trans g2) _ fun H3 g3 => hh h e3 H3 ((e.trans g2).trans g3) _ fun H4 g4 => ?_
  have g5 := (g2.trans g3).trans g4
  obtain ⟨p, rfl, h2⟩ := Rp.mono (g3.trans g4) r2
  exact ⟨p, _, rfl, h2, fun p' hp => q p' _ _ (g5.back hp) (g5.trans (Gx.new hp)) upd_same (al_cut (int_al (K := K) a.l))⟩
theorem eb_lenS {ma : Option Scr} (ha : EvB K ta σ H ma) : EvB K (tCB (fun xs H Q => ∃ p ys, xs = [.ref p] ∧ (SqL K H p ys ∨ SqT K H p ys) ∧ Q (.int ys.length) H) (tCons ta tNil)) σ H (o1 (fun x => some (x.l.length : Int)) ma) :=
  call1 (fun H v x c r hc Q q => by
    cases hc
    obtain ⟨p, rfl, h2⟩ := r
    refine ⟨p, _, rfl, .inl h2, ?_⟩
    rw [List.length_map]
    exact q _ H Gx.rfl rfl) ha
/-- zip of three -/
theorem wk_zip3 {a b c : Addr} {vs ws zs : List V} {xs : List A} {ys : List B} {us : List C} {S : Hp} (h : S a = some (.lst vs)) (r : Al (rp K S) vs xs) (h' : S b = some (.lst ws)) (r' : Al (rp K S) ws ys) (h2 : S c = some (.lst zs)) (r2 : Al (rp K S) zs us) :
    Wk K (Itz3 K a b c) ((xs.zip (ys.zip us)).map fun p => T3.mk p.1 p.2.1 p.2.2) S := by
  have hlen : ((xs.zip (ys.zip us)).map fun p => T3.mk p.1 p.2.1 p.2.2).length = min xs.length (min ys.length us.length) := by
    rw [List.length_map, List.length_zip, List.length_zip]
  have get : forall i, i < min xs.length (min ys.length us.length) -> exists v w z, vs[i]? = some v ∧ ws[i]? = some w ∧ zs[i]? = some z := fun i hi => by
    obtain ⟨v, hv, _⟩ := r.get (List.getElem?_eq_getElem (show i < xs.length by omega))
    obtain ⟨w, hw, _⟩ := r'.get (List.getElem?_eq_getElem (show i < ys.length by omega))
    obtain ⟨z, hz, _⟩ := r2.get (List.getElem?_eq_getElem (show i < us.length by omega))
    exact ⟨v, w, z, hv, hw, hz⟩
  refine ⟨fun i H hi e => ?_, fun H e => ⟨vs, ws, zs, ⟨SqL.of (e _ _ h), SqL.of (e _ _ h'), SqL.of (e _ _ h2)⟩, ?_⟩, fun i H v H' x e hx y => ?_⟩
  · rw [hlen] at hi
    obtain ⟨v, w, z, hv, hw, hz⟩ := get i hi
    exact ⟨vs, ws, zs, v, w, z, ⟨SqL.of (e _ _ h), SqL.of (e _ _ h'), SqL.of (e _ _ h2)⟩, hv, hw, hz⟩
  · rw [hlen, r.len, r'.len, r2.len]
    omega
  · obtain ⟨T, x1, y1, u1, rfl, hT, rfl, f1, f2, f3⟩ := y
    have q1 := f1 vs (SqL.of (e _ _ h))
    have q2 := f2 ws (SqL.of (e _ _ h'))
    have q3 := f3 zs (SqL.of (e _ _ h2))
    rw [List.getElem?_map] at hx
    obtain ⟨p, hp, rfl⟩ := Option.map_eq_some_iff.mp hx
    have hz := List.getElem?_zip_eq_some.mp hp
    have hz2 := List.getElem?_zip_eq_some.mp hz.2
    obtain ⟨v, hv, rv⟩ := r.get hz.1
    obtain ⟨w, hw, rw'⟩ := r'.get hz2.1
    obtain ⟨z, hz', rz⟩ := r2.get hz2.2
    rw [hv] at q1
    rw [hw] at q2
    rw [hz'] at q3
    cases q1; cases q2; cases q3
    have g := Gx.new (o := HO.tup [x1, y1, u1]) hT
    exact ⟨g, T, x1, y1, u1, rfl, upd_same, Rp.mono (e.trans g) rv, Rp.mono (e.trans g) rw', Rp.mono (e.trans g) rz⟩
def zip3 {A B C : Type} (xs : List A) (ys : List B) (us : List C) : List (T3 A B C) := (xs.zip (ys.zip us)).map fun p => T3.mk p.1 p.2.1 p.2.2
theorem ei_zip3 {ma : Option (List A)} {mb : Option (List B)} {mc : Option (List C)} (h : EvS K ta σ M H ma) (h' : EvS K tb σ M H mb) (h2 : EvS K tc σ M H mc) : EvI K (iZip3 K (tCons ta (tCons tb (tCons tc tNil)))) σ M H (o3 (fun a b c => some (zip3 a b c)) ma mb mc) := fun xs hx H1 e R q => by
  obtain ⟨a, b, c, e1, e2, e3, e4⟩ := o3s hx
  cases e4
  refine h a e1 H1 e _ fun v H2 g r => h' b e2 H2 (e.trans g) _ fun w H3 g3 r3 => h2 c e3 H3 ((e.trans g).trans g3) _ fun z H4 g4 r4 => ?_
  obtain ⟨p, vs, rfl, i2, i3⟩ := Rp.mono (mns_mono (M := M) (g3.trans g4)) r
  obtain ⟨p', ws, rfl, i4, i5⟩ := Rp.mono (mns_mono (M := M) g4) r3
  obtain ⟨p3, zs, rfl, i6, i7⟩ := r4
  exact ⟨p, p', p3, vs, ws, zs, rfl, ⟨SqL.of (mns_ex _ _ i2), SqL.of (mns_ex _ _ i4), SqL.of (mns_ex _ _ i6)⟩, q _ H4 ((g.trans g3).trans g4) (wk_zip3 i2 i3 i4 i5 i6 i7)⟩
end
end Pu

set_option Elab.async false
set_option linter.all false
set_option maxRecDepth 100000
set_option maxHeartbeats 2000000
namespace Pu
open Pu.Rp (rp)
open PySem PySem.Spec PyProof.Rows L2
section
variable {prog : Program} {w : World} {A : Around} {E : Value → Shared → Prop} {s : Shared}
/-- sorted(x), whatever x is collected to -/
theorem sorted_gen {x : Value} {ltv : Value → Value → Bool} {Pc : List Value -> Shared -> Prop} {Q : Value → Shared → Prop} (O : SrtO.Swo ltv)
    (hcol : forall (Q1 : List Value → Shared → Prop), (forall vs s1, Pc vs s1 -> Q1 vs s1) -> wpAny (model prog w) A.in1 (collect x) Q1 E s) (hz : forall vs s1, Pc vs s1 -> vs.length ≤ sizeLine)
    (hS : forall vs s1, Pc vs s1 -> 2 ≤ vs.length -> forall (h1 : Heap) (a : Addr), h1.get? a = some (seqObj "list" vs.toArray 0) -> (forall b o, s1.heap.get? b = some o -> b ≠ a ∧ h1.get? b = some o) -> SrtO.SortableO prog w A.in1.in1 { s1 with heap := h1 } a vs ltv)
    (h : forall vs s1 out h2 p c, Pc vs s1 -> SrtO.Srtd ltv out -> SrtO.Stb ltv out vs -> s1.heap.objs.size ≤ p -> h2.get? p = some (seqObj "list" out.toArray c) -> (forall b o, s1.heap.get? b = some o -> h2.get? b = some o) -> Q (.ref p) { s1 with heap := h2 }) :
    wpAny (model prog w) A (call (.builtin "sorted") [x]) Q E s := by
  refine Calls.call_function_entry kind_sorted plain_sorted entry_sorted (args_sorted1 _) ?_
  unfold Builtin.«sorted»
  refine wpAny_bind (m := checkCount "sorted" 1 1 _) (wpAny_pure (wpAny_bind (hcol _ fun vs s1 hP => ?_)))
  have z := hz vs s1 hP
  refine wpAny_bind (wpAny_newList ?_ z)
  have hoL : (s1.heap.push (seqObj "list" vs.toArray 0)).get? s1.heap.objs.size = some (seqObj "list" vs.toArray 0) := Heap.get?_push_size _ rfl
  have kp : forall b o, s1.heap.get? b = some o -> b ≠ s1.heap.objs.size ∧ (s1.heap.push (seqObj "list" vs.toArray 0)).get? b = some o := fun b o q => ⟨Nat.ne_of_lt (Heap.lt_size q), Heap.get?_push_of_some _ q⟩
  refine wpAny_bind (wpAny_holding (wpAny_call_entry slot_list_sort ⟨_, hoL, rfl⟩ entry_list_sort (SrtO.list_sort_ord O hoL z (fun h2 => hS vs s1 hP h2 _ _ hoL kp) fun out q1 q2 => ⟨_, rfl, wpAny_pure ⟨_, rfl, ?_⟩⟩) (args_list_sort _)))
  obtain ⟨c, hc⟩ := sortedHeap_at (vs := vs) (out := out.toArray) hoL
  refine h vs s1 out _ _ c hP q1 q2 (Nat.le_refl _) hc fun b o e => ?_
  have hlt := Heap.lt_size e
  rw [sortedHeap_old (Nat.ne_of_lt hlt) (by rw [Heap.size_push]; exact Nat.lt_succ_of_lt hlt)]
  exact Heap.get?_push_of_some _ e
end

/-! pairs of ints -/
def plt (p q : Int × Int) : Bool := SrtO.lexB p q
theorem plt_iff {p q : Int × Int} : plt p q = true ↔ p.1 < q.1 ∨ (p.1 = q.1 ∧ p.2 < q.2) := SrtO.lexB_iff
def ple (p q : Int × Int) : Bool := !plt q p
theorem ple_iff {p q : Int × Int} : ple p q = true ↔ p.1 < q.1 ∨ (p.1 = q.1 ∧ p.2 ≤ q.2) := by
  unfold ple
  have h := @plt_iff q p
  cases e : plt q p with
  | true =>
    have z := h.mp e
    constructor
    · intro q; cases q
    · intro q; omega
  | false =>
    constructor
    · intro _
      have n : ¬ (q.1 < p.1 ∨ (q.1 = p.1 ∧ q.2 < p.2)) := fun z => by rw [h.mpr z] at e; cases e
      omega
    · intro _; rfl
/-- pairs in order -/
def psort (x : List (Int × Int)) : List (Int × Int) := x.mergeSort ple
theorem psort_perm (x : List (Int × Int)) : (psort x).Perm x := List.mergeSort_perm _ _
theorem psort_le (x : List (Int × Int)) : (psort x).Pairwise fun p q => ple p q = true :=
  List.pairwise_mergeSort (fun a b c h1 h2 => by rw [ple_iff] at *; omega) (fun a b => by rw [Bool.or_eq_true, ple_iff, ple_iff]; omega) x
theorem pp_uniq {xs ys : List (Int × Int)} (p : xs.Perm ys) (h1 : xs.Pairwise fun p q => ple p q = true) (h2 : ys.Pairwise fun p q => ple p q = true) : xs = ys :=
  p.eq_of_pairwise (fun a b _ _ h h' => by
    rw [ple_iff] at h h'
    have e1 : a.1 = b.1 := by omega
    have e2 : a.2 = b.2 := by omega
    exact Prod.ext e1 e2) h1 h2
/-- sorted(x), x a list or a tuple of pairs of ints -/
def rSortE (K : Fg) : List V -> Hp -> VK -> Prop := fun vs H Q => exists (a : Addr) (xs : List V) (ps : List (Int × Int)), vs = [V.ref a] ∧ (H a = some (.lst xs) ∨ H a = some (.tup xs)) ∧ Al (rp K H) xs ps ∧
  forall ys p, H p = none -> Al (rp K H) ys (psort ps) -> Q (.ref p) (upd H p (.lst ys))
def prOf (H : Hp) (v : V) : Int × Int := match v with
  | .ref t => match H t with
    | some (.tup [.int i, .int j]) => (i, j)
    | _ => (0, 0)
  | _ => (0, 0)
theorem prOf_eq {K : Fg} {H : Hp} {v : V} {x : Int × Int} (h : rp K H v x) : prOf H v = x ∧ exists t, v = .ref t ∧ H t = some (.tup [.int x.1, .int x.2]) := by
  obtain ⟨t, u, w, rfl, h2, h3, h4⟩ := h
  have e3 : u = .int x.1 := h3
  have e4 : w = .int x.2 := h4
  subst e3 e4
  refine ⟨?_, t, rfl, h2⟩
  unfold prOf
  simp only [h2]
theorem al_pr {K : Fg} {H : Hp} : forall {vs : List V} {xs : List (Int × Int)}, Al (rp K H) vs xs -> vs.map (prOf H) = xs
  | [], [], _ => rfl
  | _ :: _, _ :: _, q => by rw [List.map_cons, (prOf_eq q.1).1, al_pr q.2]
  | [], _ :: _, q => q.elim
  | _ :: _, [], q => q.elim
theorem al_of {A : Type} {F : V -> A -> Prop} {f : V -> A} : forall {vs : List V}, (forall v, v ∈ vs -> F v (f v)) -> Al F vs (vs.map f)
  | [], _ => trivial
  | v :: vs, h => ⟨h v List.mem_cons_self, al_of fun u hu => h u (List.mem_cons_of_mem _ hu)⟩
section
variable {X : Cx}
theorem cr_sortE : CallR X (.builtin "sorted") (rSortE X.K) := by
  intro pins s σ H vs us Q I r h
  obtain ⟨a, xs, ps, rfl, hs, hx, q⟩ := h
  obtain ⟨u, rfl, ru⟩ := vals1 r
  obtain rfl : u = Value.ref a := ru
  have hmem : forall v, v ∈ xs -> exists t, v = .ref t ∧ H t = some (.tup [.int (prOf H v).1, .int (prOf H v).2]) := fun v hv => by
    obtain ⟨i, hi⟩ := List.getElem?_of_mem hv
    obtain ⟨x, hx1, hx2⟩ := hx.getV hi
    obtain ⟨e1, e2⟩ := prOf_eq hx2
    rw [e1]
    exact e2
  obtain ⟨T, o, its, n, hT, ho, hc, hd, rv, hz⟩ : exists T o its n, (T = "list" ∨ T = "tuple") ∧ s.heap.get? a = some o ∧ o.cls = .type T ∧ o.data = .seq (List.toArray its) n ∧ Vals xs its ∧ xs.length ≤ sizeLine := by
    rcases hs with hs | hs
    · obtain ⟨its, rv, ⟨o, n, ho, hc, _, hd⟩, hz⟩ := I.list (SqL.of hs)
      exact ⟨"list", o, its, n, .inl rfl, ho, hc, hd, rv, hz⟩
    · obtain ⟨its, rv, ⟨o, ho, hc, n, hd⟩, hz⟩ := I.tuple (SqT.of hs)
      exact ⟨"tuple", o, its, n, .inr rfl, ho, hc, hd, rv, hz⟩
  have hzi : its.toArray.size ≤ sizeLine := by rw [List.size_toArray, ← rv.length]; exact hz
  obtain ⟨e1, e2⟩ := refs_back rv fun x m => by
    obtain ⟨t, e, _⟩ := hmem x m
    exact ⟨t, e⟩
  refine sorted_gen (Pc := fun vs s1 => vs = its ∧ exists h', s1 = { s with heap := h' } ∧ forall b o', s.heap.get? b = some o' -> h'.get? b = some o') (SrtO.swo_lex fun v => prOf H (backV v)) (fun Q1 hQ => ?_) (fun vs s1 ⟨e, _⟩ => ?_) (fun vs s1 ⟨e, h', es, kp⟩ h2 h1 a' ha kk => ?_) fun vs s1 out h2 p c ⟨e, h', es, kp⟩ q1 q2 hp hg hk => ?_
  · exact wpAny_collect_seq a hT ho hc hd (fun h' kp => hQ _ _ ⟨by simp, h', rfl, kp⟩) hzi
  · rw [e, ← rv.length]; exact hz
  · subst e es
    refine SrtO.pairs_sortableO (s := { s with heap := h1 }) (by omega) (fun v hv => ?_) fun o e => ?_
    · obtain ⟨t, rfl⟩ := e2 v hv
      have hm : V.ref t ∈ xs := by rw [e1]; exact List.mem_map.mpr ⟨_, hv, rfl⟩
      obtain ⟨t', e, ht⟩ := hmem _ hm
      cases e
      obtain ⟨_, its2, r2, o2, ho2, hc2, n2, hd2⟩ := I.hok _ _ ht
      obtain ⟨u1, u2, rfl, ri, rj⟩ := vals2 r2
      obtain ⟨t1, rfl⟩ := ri
      obtain ⟨t2, rfl⟩ := rj
      exact ⟨t, o2, t1, t2, n2, rfl, (kk _ _ (kp _ _ ho2)).2, hc2, hd2⟩
    · have e' : some o = some (seqObj "list" vs.toArray 0) := e.symm.trans ha
      cases e'
      intro c
      exact absurd (Value.type.inj c) (by decide)
  · subst e es
    have h3 : ∀ u ∈ out, ∃ a, u = Value.ref a := fun u hu => e2 u (q2.perm.mem_iff.mp hu)
    have I1 : Inv X pins σ H { s with heap := h' } := I.kept (t' := s.toks) kp
    have hn : H p = none := I1.hok.fresh hp
    have pm : (out.map backV).Perm xs := by rw [e1]; exact q2.perm.map backV
    have al : Al (rp X.K H) (out.map backV) (psort ps) := by
      have a1 : Al (rp X.K H) (out.map backV) ((out.map backV).map (prOf H)) := al_of fun v hv => by
        obtain ⟨t, rfl, ht⟩ := hmem v (pm.mem_iff.mp hv)
        exact ⟨t, _, _, rfl, ht, rfl, rfl⟩
      have e3 : (out.map backV).map (prOf H) = psort ps := by
        refine pp_uniq ?_ ?_ (psort_le ps)
        · refine List.Perm.trans (pm.map (prOf H)) ?_
          rw [al_pr hx]
          exact (psort_perm ps).symm
        · rw [List.map_map]
          exact List.pairwise_map.mpr (q1.imp fun {x y} h => by
            show (!plt (prOf H (backV y)) (prOf H (backV x))) = true
            have h' : plt (prOf H (backV y)) (prOf H (backV x)) = false := h
            rw [h']; rfl)
      rw [e3] at a1
      exact a1
    refine ⟨.ref p, upd H p (.lst (out.map backV)), I1.laid (t' := s.toks) hk hp ⟨?_, out, c, vals_back h3, hg⟩, rfl, q _ p hn al⟩
    rw [pm.length_eq]
    exact hz
/-! a set of ints, any number of them -/
def rSortS (w : World) : List V -> Hp -> VK -> Prop := fun vs H Q => exists (a : Addr) (S : Int -> Bool) (n : Nat), vs = [V.ref a] ∧ H a = some (SetO w a S n) ∧
  forall (ns : List Int) (p : Addr), ns.Pairwise (· < ·) -> (forall k : Int, k ∈ ns ↔ S k = true) -> H p = none -> Q (.ref p) (upd H p (.lst (ns.map V.int)))
theorem cr_sortS (hc : X.calm = true) : CallR X (.builtin "sorted") (rSortS X.w) := by
  intro pins s σ H vs us Q I r h
  obtain ⟨a, S, n, rfl, ha, q⟩ := h
  have R := setO_get I ha
  rw [Vals.ref1 r]
  obtain ⟨o, es, ep, t, ho, hex, hd, g, nd, hm, hb, hf, hn, hr, hl⟩ := R
  have hh : X.A.in1.handled = none := by simpa using I.ok.hd hc
  refine sorted_gen (Pc := fun vs s1 => vs.Perm (es.toList.map (·.2)) ∧ (forall b o, s.heap.get? b = some o -> s1.heap.get? b = some o) ∧ s1.gens = s.gens ∧ s1.os = s.os ∧ s.heap.objs.size ≤ s1.heap.objs.size) SrtO.swo_int (fun Q1 hQ => ?_) (fun vs s1 ⟨pm, _⟩ => ?_) (fun vs s1 ⟨pm, _⟩ h2 h1 a' ha' kk => ?_) fun vs s1 out h2 p c ⟨pm, kp, g1, o1, z1⟩ q1 q2 hp hg hk => ?_
  · exact collect_set hh ⟨o, ho, hex.1, hd⟩ hf hb hr hl fun s1 vs k1 hz g1 o1 pm => hQ vs s1 ⟨pm, k1, g1, o1, hz⟩
  · rw [pm.length_eq, List.length_map, Array.length_toList]
    exact fits_of_scanBound hb
  · refine SrtO.ints_sortable (ns := vs.map Builtin.Re.reRawOf) (ints_of vs fun v hv => ?_) h2
    obtain ⟨e, he, qe⟩ := List.mem_map.mp (pm.mem_iff.mp hv)
    obtain ⟨k, tk, h1, _⟩ := g e he
    exact ⟨k, tk, by rw [← qe]; exact h1⟩
  · have hI : IntsAre vs (vs.map Builtin.Re.reRawOf) := ints_of vs fun v hv => by
      obtain ⟨e, he, qe⟩ := List.mem_map.mp (pm.mem_iff.mp hv)
      obtain ⟨k, tk, h1, _⟩ := g e he
      exact ⟨k, tk, by rw [← qe]; exact h1⟩
    obtain ⟨k1, k2, k3⟩ := SrtO.ints_out hI q1 q2
    have pk : (vs.map Builtin.Re.reRawOf).Perm (es.toList.map keyOf) := by
      have z := pm.map Builtin.Re.reRawOf
      rw [List.map_map] at z
      exact z
    have pn : (out.map SrtO.iv).Perm (es.toList.map keyOf) := k2.trans pk
    have hp' : s.heap.objs.size ≤ p := Nat.le_trans z1 hp
    have hnp : H p = none := I.hok.fresh hp'
    have kk : forall b o, s.heap.get? b = some o -> h2.get? b = some o := fun b o e => hk b o (kp b o e)
    have hlen : ((out.map SrtO.iv).map V.int).length ≤ sizeLine := by
      rw [List.length_map, pn.length_eq, List.length_map, Array.length_toList]
      exact fits_of_scanBound hb
    have J : Inv X pins σ (upd H p (.lst ((out.map SrtO.iv).map V.int))) { s with heap := h2, gens := s1.gens, drawn := s1.drawn, toks := s1.toks } :=
      I.call (ch := []) (Un.laid kk hp' hnp) (I.hok.laid kk hp' ⟨hlen, out, c, vals_of_ints k1, hg⟩) (by rw [g1]; exact I.bare) (fun _ z => nomatch z)
    have e : { s1 with heap := h2 } = { s with heap := h2, gens := s1.gens, drawn := s1.drawn, toks := s1.toks } := by
      cases s1
      cases s
      cases o1
      rfl
    rw [e]
    exact ⟨.ref p, _, J, rfl, q _ p (lt_of_le_nodup _ k3 (pn.nodup_iff.mpr nd)) (fun k => by rw [pn.mem_iff, ← hm k]) hnp⟩
end
end Pu

set_option Elab.async false
set_option linter.all false
set_option maxRecDepth 100000
namespace Pu
open Pu.Rp (rp)
open PySem PySem.Spec PyProof.Rows L2
/-! dicts with int keys -/
def dput {B : Type} (d : List (Int × B)) (k : Int) (x : B) : List (Int × B) := if (d.any fun p => decide (p.1 = k)) = true then d.map (fun p => if p.1 = k then (p.1, x) else p) else d ++ [(k, x)]
def Da {B : Type} (F : V -> B -> Prop) : List (Key × V) -> List (Int × B) -> Prop
  | [], [] => True
  | p :: r, x :: xs => p.1 = .inl x.1 ∧ F p.2 x.2 ∧ Da F r xs
  | _, _ => False
theorem Da.mono {B : Type} {F F' : V -> B -> Prop} (h : forall v x, F v x -> F' v x) : forall {kvs : List (Key × V)} {d : List (Int × B)}, Da F kvs d -> Da F' kvs d
  | [], [], _ => trivial
  | _ :: _, _ :: _, q => ⟨q.1, h _ _ q.2.1, Da.mono h q.2.2⟩
  | [], _ :: _, q => q.elim
  | _ :: _, [], q => q.elim
theorem Da.len {B : Type} {F : V -> B -> Prop} : forall {kvs : List (Key × V)} {d : List (Int × B)}, Da F kvs d -> kvs.length = d.length
  | [], [], _ => rfl
  | _ :: _, _ :: _, q => by simp only [List.length_cons, Da.len q.2.2]
  | [], _ :: _, q => q.elim
  | _ :: _, [], q => q.elim
theorem Da.any {B : Type} {F : V -> B -> Prop} (k : Int) : forall {kvs : List (Key × V)} {d : List (Int × B)}, Da F kvs d -> (kvs.any fun p => decide (p.1 = .inl k)) = d.any fun p => decide (p.1 = k)
  | [], [], _ => rfl
  | p :: r, x :: xs, q => by
    rw [List.any_cons, List.any_cons, Da.any k q.2.2, q.1]
    congr 1
    by_cases e : x.1 = k
    · rw [decide_eq_true e, e]; simp
    · rw [decide_eq_false e, decide_eq_false (fun z => e (Sum.inl.inj z))]
  | [], _ :: _, q => q.elim
  | _ :: _, [], q => q.elim
theorem Da.map {B : Type} {F : V -> B -> Prop} {k : Int} {v : V} {x : B} (h : F v x) : forall {kvs : List (Key × V)} {d : List (Int × B)}, Da F kvs d -> Da F (kvs.map fun p => if p.1 = .inl k then (p.1, v) else p) (d.map fun p => if p.1 = k then (p.1, x) else p)
  | [], [], _ => trivial
  | p :: r, y :: ys, q => by
    refine ⟨?_, ?_, Da.map h q.2.2⟩
    · by_cases e : y.1 = k
      · have e2 : p.1 = .inl k := by rw [q.1, e]
        simp only [if_pos e, if_pos e2]
        exact q.1
      · have e2 : ¬ p.1 = .inl k := fun z => e (Sum.inl.inj (q.1.symm.trans z))
        simp only [if_neg e, if_neg e2]
        exact q.1
    · by_cases e : y.1 = k
      · have e2 : p.1 = .inl k := by rw [q.1, e]
        simp only [if_pos e, if_pos e2]
        exact h
      · have e2 : ¬ p.1 = .inl k := fun z => e (Sum.inl.inj (q.1.symm.trans z))
        simp only [if_neg e, if_neg e2]
        exact q.2.1
  | [], _ :: _, q => q.elim
  | _ :: _, [], q => q.elim
theorem Da.snoc {B : Type} {F : V -> B -> Prop} {k : Int} {v : V} {x : B} (h : F v x) : forall {kvs : List (Key × V)} {d : List (Int × B)}, Da F kvs d -> Da F (kvs ++ [(.inl k, v)]) (d ++ [(k, x)])
  | [], [], _ => ⟨rfl, h, trivial⟩
  | _ :: _, _ :: _, q => ⟨q.1, q.2.1, Da.snoc h q.2.2⟩
  | [], _ :: _, q => q.elim
  | _ :: _, [], q => q.elim
theorem Da.put {B : Type} {F : V -> B -> Prop} {kvs : List (Key × V)} {d : List (Int × B)} {k : Int} {v : V} {x : B} (q : Da F kvs d) (h : F v x) : Da F (putK kvs (.inl k) v) (dput d k x) := by
  unfold putK dput
  rw [Da.any k q]
  split
  · exact Da.map h q
  · exact Da.snoc h q
theorem Da.key {B : Type} {F : V -> B -> Prop} : forall {kvs : List (Key × V)} {d : List (Int × B)} {i : Nat} {x : Int}, Da F kvs d -> (d.map (·.1))[i]? = some x -> exists v, kvs[i]? = some (.inl x, v)
  | [], [], _, _, _, h => by simp at h
  | p :: _, y :: _, 0, x, q, h => by
    have e : y.1 = x := by simpa using h
    refine ⟨p.2, ?_⟩
    rw [← e, ← q.1]
    rfl
  | _ :: _, _ :: _, i + 1, x, q, h => by
    obtain ⟨v, h1⟩ := Da.key (i := i) (x := x) q.2.2 (by simpa using h)
    exact ⟨v, by simpa using h1⟩
  | [], _ :: _, _, _, q, _ => q.elim
  | _ :: _, [], _, _, q, _ => q.elim
theorem dput_len {B : Type} (d : List (Int × B)) (k : Int) (x : B) : (dput d k x).length ≤ d.length + 1 := by
  unfold dput
  split
  · rw [List.length_map]; omega
  · rw [List.length_append]; simp
section
variable {K : Fg} {A B C D : Type} [Rp A] [Rp B] [Rp C] [Rp D]
variable {σ : L2.St} {G G' H H' : Hp} {L L1 L2' : Led} {M : List Addr} {te ta tb tc td : TE} {tt tu : TT} {X : Ends} {t1 t2 u : TS} {i : Nat}
/-- {k: v} -/
theorem st_dict1 [Im B] {k : Int} {m : Option B} {x : B} (h : forall H1, Gx H H1 -> EvB K te σ H1 m) (hm : m = some x) (a : At G H L)
    (kk : forall p v G2 H2, H p = none -> Gx G G2 -> Gx H H2 -> At G2 H2 ((p, .dK [(.inl k, v)]) :: L) -> rp K G2 v x -> u X (σ.set i (some (.ref p))) H2) : tSeq (tAsg (tDisp [(tC (.int k), te)]) (gName i)) u X σ H := by
  intro p hp
  have e1 : Gx H (upd H p (.dK [])) := Gx.new hp
  refine h _ e1 x hm _ Gx.rfl _ fun v H2 e2 r => ?_
  have hd : H2 p = some (.dK []) := e2 _ _ upd_same
  refine ⟨hd, [(.inl k, v)], rfl, by show 1 ≤ 15; decide, ?_⟩
  have a1 : At G (upd H p (.dK [])) ((p, .dK []) :: L) := a.add hp trivial
  have a2 : At G H2 ([] ++ (p, .dK []) :: L) := a1.grow e2
  have a3 := a2.set (o' := .dK (mergeK [] [(.inl k, v)])) trivial
  have em : mergeK [] [((.inl k : Key), v)] = [(.inl k, v)] := rfl
  rw [em] at a3 ⊢
  refine kk p v (hid (upd H2 p (.dK [(.inl k, v)])) ((p, .dK [(.inl k, v)]) :: L)) _ hp a3.gh ?_ a3.hid (Im.im (fun b xs hb => a3.tx b xs ?_) r)
  · exact (e1.trans e2).mut hp
  · exact Tx.mut (fun ys q => by rw [hd] at q; cases q) b xs hb
/-- d[k] = v -/
theorem st_dput [Im B] {p : Addr} {kvs : List (Key × V)} {d : List (Int × B)} {mk : Option Int} {k : Int} {m : Option B} {x : B} (h : EvB K tc σ H m) (hm : m = some x) (hs : forall H1, Gx H H1 -> forall Q : VK, Q (.ref p) H1 -> td σ H1 Q) (hk : EvB K te σ H mk) (hkk : mk = some k)
    (a : At G H (L1 ++ (p, .dK kvs) :: L2')) (r : Da (rp K G) kvs d) (hz : d.length < 100000)
    (kk : forall kvs' G2 H2, Gx G G2 -> At G2 (upd H2 p (.dK kvs')) (L1 ++ (p, .dK kvs') :: L2') -> Gx H H2 -> Da (rp K G2) kvs' (dput d k x) -> u X σ (upd H2 p (.dK kvs'))) :
    tSeq (sDPut td te tc) u X σ H := by
  have hp := (a.led (p, .dK kvs) (by simp)).1
  refine h x hm H Gx.rfl _ fun v H2 e2 r2 => hs H2 e2 _ (hk k hkk H2 e2 _ fun w H3 e3 rw' => ?_)
  have e4 : w = .int k := rw'
  subst e4
  have hd : H3 p = some (.dK kvs) := e3 _ _ (e2 _ _ hp)
  refine ⟨p, _, rfl, .inl ⟨kvs, .inl k, hd, rfl, by rw [r.len]; exact Evl.sz_lt hz, rfl⟩, ?_⟩
  have a3 := (a.grow (e2.trans e3)).set (o' := .dK (putK kvs (.inl k) v)) trivial
  refine kk (putK kvs (.inl k) v) (hid (upd H3 p (.dK (putK kvs (.inl k) v))) (L1 ++ (p, .dK (putK kvs (.inl k) v)) :: L2')) H3 a3.gh a3.hid (e2.trans e3) ((r.mono fun _ _ => Rp.mono a3.gh).put (Im.im (fun b xs hb => a3.tx b xs ?_) (Rp.mono e3 r2)))
  exact Tx.mut (fun ys q => by rw [hd] at q; cases q) b xs hb
/-- a comprehension over the keys of one's own dict -/
theorem en_lcK [Im A] {g : TG} {b : Bd Int} {vs : List Nat} {p : Addr} {kvs : List (Key × V)} {F : V -> B -> Prop} {d : List (Int × B)} {c : Int -> Option Bool} {f : Int -> Option A} (hs : σ[i]? = some (some (.ref p))) (hd : H p = some (.dK kvs)) (hr : Da F kvs d) (hg : TgOk K g b) (hb : BdIn b vs)
    (ht : forall x σ2 H', Gx (mns H [p]) H' -> b x (wipe σ vs) H' σ2 -> EvT tt σ2 H' (c x)) (he : forall x σ2 H', Gx (mns H [p]) H' -> b x (wipe σ vs) H' σ2 -> EvB K te σ2 H' (f x)) :
    EvN K (tLockE (tLc (iKeys (tVar i)) g tt te vs)) σ H ((lim 100000 (d.map (·.1))).bind (comp c f)) := fun r hr' H1 e1 Q q => by
  have hd1 : H1 p = some (.dK kvs) := e1 _ _ hd
  refine ⟨p, .dK kvs, hd1, trivial, fun od => ?_⟩
  have em1 : Gx (mns H [p]) (upd H1 p (.frz od (.dK kvs))) := fun a o h => by
    have n : a ≠ p := fun z => by rw [z, mns_in (List.mem_singleton.mpr rfl)] at h; cases h
    rw [upd_ne n]
    exact e1 _ _ (mns_ex _ _ h)
  refine ⟨_, hs, p, od, rfl, .inl ⟨kvs, upd_same, ?_⟩⟩
  intro D hD
  have nD : D ≠ p := fun z => by rw [z, upd_same] at hD; cases hD
  have hD1 : H1 D = none := by rw [upd_ne nD] at hD; exact hD
  generalize hks : d.map (·.1) = ks at hr'
  have hkl : kvs.length = ks.length := by rw [hr.len, ← hks, List.length_map]
  unfold lim at hr'
  by_cases hz : ks.length ≤ 100000
  · rw [if_pos hz] at hr'
    have hr2 : comp c f ks = some r := hr'
    refine ⟨fun i m Hc => m = ks.length - i ∧ i ≤ ks.length ∧ Gx (upd H1 p (.frz od (.dK kvs))) Hc ∧ exists vs' ys r', Hc D = some (.lst vs') ∧ Al (rp K Hc) vs' ys ∧ ys.length ≤ i ∧ comp c f (ks.drop i) = some r' ∧ r = ys ++ r',
      ⟨ks.length, by simp, Nat.zero_le _, Gx.new hD, [], [], r, upd_same, trivial, Nat.le_refl _, hr2, rfl⟩, ?_⟩
    rintro i m Hc ⟨rfl, hle, gc, vs', ys, r', hDc, ral, hlen, hcomp, rfl⟩
    have hpc : Hc p = some (.frz od (.dK kvs)) := gc _ _ upd_same
    by_cases hlt : i < ks.length
    · refine .inr ⟨⟨hpc, by rw [hkl]; exact hlt⟩, fun Hn => i + 1 ≤ ks.length ∧ Gx (upd H1 p (.frz od (.dK kvs))) Hn ∧ exists vs' ys' r'', Hn D = some (.lst vs') ∧ Al (rp K Hn) vs' ys' ∧ ys'.length ≤ i + 1 ∧ comp c f (ks.drop (i + 1)) = some r'' ∧ ys ++ r' = ys' ++ r'',
        fun Hn hn => ⟨ks.length - (i + 1), by omega, rfl, hn.1, hn.2⟩, fun v Hy hy => ?_⟩
      obtain ⟨rfl, k, v', hk, rfl⟩ := hy
      have hx : (d.map (·.1))[i]? = some ks[i] := by rw [hks]; exact List.getElem?_eq_getElem hlt
      obtain ⟨v2, hv2⟩ := hr.key hx
      rw [hv2] at hk
      have ek : k = .inl ks[i] := (congrArg Prod.fst (Option.some.inj hk)).symm
      subst ek
      have gH : Gx (mns H [p]) Hy := em1.trans gc
      refine hg ks[i] (.int ks[i]) (wipe σ vs) Hy _ rfl fun σ2 hσ => ⟨(hb _ _ _ _ hσ).trans (wipe_wipe σ vs), ?_⟩
      rw [List.drop_eq_getElem_cons hlt] at hcomp
      rcases comp_cons hcomp with ⟨hc, y, r2, hf, h2, rfl⟩ | ⟨hc, h2⟩
      · refine ht _ σ2 Hy gH hσ true hc Hy Gx.rfl _ fun H3 g3 => ite_tt ?_
        refine he _ σ2 Hy gH hσ y hf H3 g3 _ fun u H4 g4 r4 => ?_
        have gD := g3.trans g4
        have h4 : H4 D = some (.lst vs') := gD _ _ hDc
        have tx : Tx H4 (upd H4 D (.lst (vs' ++ [u]))) := Tx.mut fun xs q => by rw [h4] at q; cases q
        refine ⟨vs', h4, ?_, hlt, (gc.trans gD).mut hD, vs' ++ [u], ys ++ [y], r2, upd_same, ?_, ?_, h2, by simp⟩
        · rw [ral.len]; exact Evl.sz_lt (by omega)
        · exact ((ral.mono fun _ _ => Rp.mono gD).app (Al.one r4)).mono fun _ _ => Im.im tx
        · rw [List.length_append]; simp only [List.length_cons, List.length_nil]; omega
      · refine ht _ σ2 Hy gH hσ false hc Hy Gx.rfl _ fun H3 g3 => ite_ff ?_
        exact ⟨hlt, gc.trans g3, vs', ys, r', g3 _ _ hDc, ral.mono fun _ _ => Rp.mono g3, by omega, h2, rfl⟩
    · have hi : i = ks.length := by omega
      subst hi
      rw [List.drop_length] at hcomp
      cases hcomp
      rw [List.append_nil] at *
      refine .inl ⟨⟨hpc, by rw [hkl]; exact Nat.le_refl _⟩, hpc, ?_⟩
      have tx : Tx Hc (upd Hc p (.dK kvs)) := Tx.mut fun xs q => by rw [hpc] at q; cases q
      refine q D vs' _ hD1 (fun a o h => ?_) (by rw [upd_ne nD]; exact hDc) (ral.mono fun _ _ => Im.im tx)
      by_cases n : a = p
      · rw [n] at h ⊢
        rw [hd1] at h
        cases h
        exact upd_same
      · rw [upd_ne n]
        exact gc _ _ (by rw [upd_ne n]; exact h)
  · rw [if_neg hz] at hr'
    cases hr'
end
end Pu

set_option Elab.async false
set_option linter.all false
set_option maxRecDepth 100000
namespace Pu
open Pu.Rp (rp)
open PySem PySem.Spec PyProof.Rows L2
/-! short names for what a program's text comes to -/
def fAdd (i j : Int) : Option Int := some (i + j)
def fSub (i j : Int) : Option Int := some (i - j)
def fMul (i j : Int) : Option Int := if mulOk i j = true then some (i * j) else none
def fDiv (i j : Int) : Option Int := if 0 < j ∧ j < 1073741824 then some (i / j) else none
def fMod (i j : Int) : Option Int := if 0 < j then some (i % j) else none
def fPow (i j : Int) : Option Int := if powOk i j = true then some (i ^ j.toNat) else none
def fNeg (i : Int) : Option Int := some (-i)
def fLt (i j : Int) : Option Bool := some (decide (i < j))
def fLe (i j : Int) : Option Bool := some (decide (i ≤ j))
def fGt (i j : Int) : Option Bool := some (decide (j < i))
def fGe (i j : Int) : Option Bool := some (decide (j ≤ i))
def fEq {A : Type} [DecidableEq A] (x y : A) : Option Bool := some (decide (x = y))
def fNe {A : Type} [DecidableEq A] (x y : A) : Option Bool := some (!decide (x = y))
def fIxT {A : Type} (x : Tl A) (i : Int) : Option A := ix x.l i
def fLen {A : Type} (x : List A) : Option Int := some (x.length : Int)
def fLenT {A : Type} (x : Tl A) : Option Int := some (x.l.length : Int)
def fLenS (x : Scr) : Option Int := some (x.l.length : Int)
def fMax (i j : Int) : Option Int := some (imax i j)
def fMin (i j : Int) : Option Int := some (imin i j)
def fSum (x : List Int) : Option Int := some x.sum
def fAny (x : List Bool) : Option Bool := some (x.any id)
def fAll (x : List Bool) : Option Bool := some (x.all id)
def fSortI (x : List Int) : Option (List Int) := some (isort x)
def fSortP (x : List (Int × Int)) : Option (List (Int × Int)) := some (psort x)
def fSortPT (x : Tl (Int × Int)) : Option (List (Int × Int)) := some (psort x.l)
def fList {A : Type} (x : List A) : Option (List A) := some x
def fListT {A : Type} (x : Tl A) : Option (List A) := some x.l
def fTuple {A : Type} (x : List A) : Option (Tl A) := some ⟨x⟩
def fPair {A B : Type} (x : A) (y : B) : Option (A × B) := some (x, y)
def fTrip {A B C : Type} (x : A) (y : B) (z : C) : Option (T3 A B C) := some ⟨x, y, z⟩
def fCons {A : Type} (x : A) (y : List A) : Option (List A) := some (x :: y)
def fCut {A : Type} (x : List A) (l h : Option Int) : Option (List A) := some (cutM x l h)
def fCutS (x : Scr) (l h : Option Int) : Option (List Int) := some (cutM x.l l h)
def fCutT {A : Type} (x : Tl A) (l h : Option Int) : Option (Tl A) := some ⟨cutM x.l l h⟩
def fStep {A : Type} (n : Nat) (x : List A) (l h : Option Int) : Option (List A) := some (stepM x l h n)
def fCat {A : Type} (x y : List A) : Option (List A) := szOk (x ++ y)
def fCatT {A : Type} (x y : Tl A) : Option (Tl A) := (szOk (x.l ++ y.l)).map Tl.mk
def fTup {A : Type} (x : List A) : Option (Tl A) := (szOk x).map Tl.mk
def fFst {A B : Type} (x : A × B) : Option A := some x.1
def fSnd {A B : Type} (x : A × B) : Option B := some x.2
def fTru {A : Type} (x : List A) : Option Bool := some (!x.isEmpty)
def fTruT {A : Type} (x : Tl A) : Option Bool := some (!x.l.isEmpty)
def fZip {A B : Type} (x : List A) (y : List B) : Option (List (A × B)) := some (x.zip y)
def fZip3 {A B C : Type} (x : List A) (y : List B) (z : List C) : Option (List (T3 A B C)) := some (zip3 x y z)
def fRng1 (j : Int) : Option (List Int) := if rgOk j = true then some (rng 0 j) else none
def fRng2 (i j : Int) : Option (List Int) := if rgOk i = true ∧ rgOk j = true then some (rng i j) else none
def fRev {A : Type} (x : List A) : Option (List A) := some x.reverse
def sins (x : Int) : List Int -> List Int
  | [] => [x]
  | y :: r => if x < y then x :: y :: r else if x = y then y :: r else y :: sins x r
/-- what sorted(set(..)) tells -/
def sset (x : List Int) : List Int := x.foldr sins []
def fSortSet (x : List Int) : Option (List Int) := if x.length ≤ 1000 then some (sset x) else none
theorem mem_sins {x k : Int} : forall {l : List Int}, k ∈ sins x l ↔ k = x ∨ k ∈ l
  | [] => by simp [sins]
  | y :: r => by
    have ih := mem_sins (x := x) (k := k) (l := r)
    unfold sins
    split
    · simp
    · split
      · rename_i h; subst h; simp
      · simp only [List.mem_cons, ih]
        constructor
        · rintro (h | h | h)
          · exact .inr (.inl h)
          · exact .inl h
          · exact .inr (.inr h)
        · rintro (h | h | h)
          · exact .inr (.inl h)
          · exact .inl h
          · exact .inr (.inr h)
theorem mem_sset {k : Int} : forall {x : List Int}, k ∈ sset x ↔ k ∈ x
  | [] => by simp [sset]
  | y :: r => by
    have ih := mem_sset (k := k) (x := r)
    show k ∈ sins y (sset r) ↔ _
    rw [mem_sins, ih, List.mem_cons]
theorem pw_sins {x : Int} : forall {l : List Int}, l.Pairwise (· < ·) -> (sins x l).Pairwise (· < ·)
  | [], _ => by simp [sins]
  | y :: r, h => by
    have h' := List.pairwise_cons.mp h
    unfold sins
    split
    · rename_i hl
      refine List.pairwise_cons.mpr ⟨fun z hz => ?_, h⟩
      rcases List.mem_cons.mp hz with rfl | hz
      · exact hl
      · exact Int.lt_trans hl (h'.1 z hz)
    · split
      · exact h
      · refine List.pairwise_cons.mpr ⟨fun z hz => ?_, pw_sins h'.2⟩
        rcases mem_sins.mp hz with rfl | hz
        · omega
        · exact h'.1 z hz
theorem pw_sset : forall x : List Int, (sset x).Pairwise (· < ·)
  | [] => .nil
  | y :: r => pw_sins (pw_sset r)
theorem lt_uniq {xs ys : List Int} (h1 : xs.Pairwise (· < ·)) (h2 : ys.Pairwise (· < ·)) (hm : forall k, k ∈ xs ↔ k ∈ ys) : xs = ys :=
  pw_uniq ((List.perm_ext_iff_of_nodup (h1.imp fun h => Int.ne_of_lt h) (h2.imp fun h => Int.ne_of_lt h)).mpr hm) (h1.imp fun h => Int.le_of_lt h) (h2.imp fun h => Int.le_of_lt h)
def oComp {I A : Type} (c : I -> Option Bool) (f : I -> Option A) (mx : Option (List I)) : Option (List A) := mx.bind fun xs => (lim 100000 xs).bind (comp c f)
def oChain {A B C : Type} (f : A -> B -> Option Bool) (g : B -> C -> Option Bool) (ma : Option A) (mb : Option B) (mc : Option C) : Option Bool :=
  ma.bind fun a => mb.bind fun b => (f a b).bind fun k => if k = true then mc.bind fun c => g b c else some false
def fYes {A : Type} (_ : A) : Option Bool := some true
theorem itt {A : Type} {a b r : A} (h : (if true = true then a else b) = r) : a = r := h
theorem itf {A : Type} {a b r : A} (h : (if false = true then a else b) = r) : b = r := h
section
variable {K : Fg} {A B C D : Type} [Rp A] [Rp B] [Rp C] [Rp D]
variable {σ : L2.St} {G G' H H' : Hp} {L L1 L2' : Led} {M : List Addr} {te ta tb tc td : TE} {tt tu : TT} {X : Ends} {t1 t2 u : TS} {i : Nat} {ma : Option A} {mb : Option B} {mc : Option C} {mi mj : Option Int}
theorem x_add (ha : EvB K ta σ H mi) (hb : EvB K tb σ H mj) : EvB K (tOp (rI0 fun i j => .int (i + j)) ta tb) σ H (o2 fAdd mi mj) := eb_op rb_add ha hb
theorem x_sub (ha : EvB K ta σ H mi) (hb : EvB K tb σ H mj) : EvB K (tOp (rI0 fun i j => .int (i - j)) ta tb) σ H (o2 fSub mi mj) := eb_op rb_sub ha hb
theorem x_mul (ha : EvB K ta σ H mi) (hb : EvB K tb σ H mj) : EvB K (tOp (rI CMul fun i j => .int (i * j)) ta tb) σ H (o2 fMul mi mj) := eb_op rb_mul ha hb
theorem x_div (ha : EvB K ta σ H mi) (hb : EvB K tb σ H mj) : EvB K (tOp (rI CDiv fun i j => .int (i / j)) ta tb) σ H (o2 fDiv mi mj) := eb_op rb_fdiv ha hb
theorem x_mod (ha : EvB K ta σ H mi) (hb : EvB K tb σ H mj) : EvB K (tOp (rI (fun _ j => 0 < j) fun i j => .int (i % j)) ta tb) σ H (o2 fMod mi mj) := eb_op rb_mod ha hb
theorem x_pow (ha : EvB K ta σ H mi) (hb : EvB K tb σ H mj) : EvB K (tOp (rI CPow fun i j => .int (i ^ j.toNat)) ta tb) σ H (o2 fPow mi mj) := eb_op rb_pow ha hb
theorem x_neg (ha : EvB K ta σ H mi) : EvB K (tUn (rU fun i => .int (-i)) ta) σ H (o1 fNeg mi) := eb_un rb_neg ha
theorem x_lt (ha : EvB K ta σ H mi) (hb : EvB K tb σ H mj) : EvB K (tOp (rI0 fun i j => .bl (decide (i < j))) ta tb) σ H (o2 fLt mi mj) := eb_op rb_lt ha hb
theorem x_le (ha : EvB K ta σ H mi) (hb : EvB K tb σ H mj) : EvB K (tOp (rI0 fun i j => .bl (decide (i ≤ j))) ta tb) σ H (o2 fLe mi mj) := eb_op rb_le ha hb
theorem x_gt (ha : EvB K ta σ H mi) (hb : EvB K tb σ H mj) : EvB K (tOp (rI0 fun i j => .bl (decide (j < i))) ta tb) σ H (o2 fGt mi mj) := eb_op rb_gt ha hb
theorem x_ge (ha : EvB K ta σ H mi) (hb : EvB K tb σ H mj) : EvB K (tOp (rI0 fun i j => .bl (decide (j ≤ i))) ta tb) σ H (o2 fGe mi mj) := eb_op rb_ge ha hb
theorem x_eq [DecidableEq A] [Eqd A] {mb : Option A} (h : Eqd.dep A ≤ 64) (ha : EvB K ta σ H ma) (hb : EvB K tb σ H mb) : EvB K (tOp (rEqD K) ta tb) σ H (o2 fEq ma mb) := eb_op (rb_eq h) ha hb
theorem x_ne [DecidableEq A] [Eqd A] {mb : Option A} (h : Eqd.dep A ≤ 64) (ha : EvB K ta σ H ma) (hb : EvB K tb σ H mb) : EvB K (tOp (rNeD K) ta tb) σ H (o2 fNe ma mb) := eb_op (rb_ne h) ha hb
theorem x_lele {mk : Option Int} (ha : EvB K ta σ H mi) (hb : EvB K tb σ H mj) (hc : EvB K tc σ H mk) : EvB K (tChain (rI0 fun i j => .bl (decide (i ≤ j))) (rI0 fun i j => .bl (decide (i ≤ j))) ta tb tc) σ H (oChain fLe fLe mi mj mk) := eb_chain rb_le rb_le ha hb hc
theorem x_ltle {mk : Option Int} (ha : EvB K ta σ H mi) (hb : EvB K tb σ H mj) (hc : EvB K tc σ H mk) : EvB K (tChain (rI0 fun i j => .bl (decide (i < j))) (rI0 fun i j => .bl (decide (i ≤ j))) ta tb tc) σ H (oChain fLt fLe mi mj mk) := eb_chain rb_lt rb_le ha hb hc
theorem x_ixL {ma : Option (List A)} (ha : EvB K ta σ H ma) (hb : EvB K tb σ H mj) : EvB K (tOp (rIxL K) ta tb) σ H (o2 ix ma mj) := eb_op rb_ixL ha hb
theorem x_ixT {ma : Option (Tl A)} (ha : EvB K ta σ H ma) (hb : EvB K tb σ H mj) : EvB K (tOp (rIxT K) ta tb) σ H (o2 fIxT ma mj) := eb_op rb_ixT ha hb
theorem x_fst {ma : Option (A × B)} (ha : EvB K ta σ H ma) : EvB K (tOp (rIxT K) ta (tC (.int 0))) σ H (o1 fFst ma) := eb_fst rfl ha
theorem x_snd {ma : Option (A × B)} (ha : EvB K ta σ H ma) : EvB K (tOp (rIxT K) ta (tC (.int 1))) σ H (o1 fSnd ma) := eb_snd rfl ha
theorem x_lenL {ma : Option (List A)} (ha : EvB K ta σ H ma) : EvB K (tCB (fun xs H Q => ∃ p ys, xs = [.ref p] ∧ (SqL K H p ys ∨ SqT K H p ys) ∧ Q (.int ys.length) H) (tCons ta tNil)) σ H (o1 fLen ma) := eb_lenL ha
theorem x_lenT {ma : Option (Tl A)} (ha : EvB K ta σ H ma) : EvB K (tCB (fun xs H Q => ∃ p ys, xs = [.ref p] ∧ (SqL K H p ys ∨ SqT K H p ys) ∧ Q (.int ys.length) H) (tCons ta tNil)) σ H (o1 fLenT ma) := eb_lenT ha
theorem x_lenS {ma : Option Scr} (ha : EvB K ta σ H ma) : EvB K (tCB (fun xs H Q => ∃ p ys, xs = [.ref p] ∧ (SqL K H p ys ∨ SqT K H p ys) ∧ Q (.int ys.length) H) (tCons ta tNil)) σ H (o1 fLenS ma) := eb_lenS ha
theorem x_max (ha : EvB K ta σ H mi) (hb : EvB K tb σ H mj) : EvB K (tCB (fun xs H Q => ∃ i j, xs = [.int i, .int j] ∧ Q (.int (if j > i then j else i)) H) (tCons ta (tCons tb tNil))) σ H (o2 fMax mi mj) := eb_max2 ha hb
theorem x_min (ha : EvB K ta σ H mi) (hb : EvB K tb σ H mj) : EvB K (tCB (fun xs H Q => ∃ i j, xs = [.int i, .int j] ∧ Q (.int (if j < i then j else i)) H) (tCons ta (tCons tb tNil))) σ H (o2 fMin mi mj) := eb_min2 ha hb
theorem x_sum {ma : Option (List Int)} (ha : EvB K ta σ H ma) : EvB K (tCB (rSum K) (tCons ta tNil)) σ H (o1 fSum ma) := eb_sum ha
theorem x_any {ma : Option (List Bool)} (ha : EvB K ta σ H ma) : EvB K (tCB (rAny K) (tCons ta tNil)) σ H (o1 fAny ma) := eb_any ha
theorem x_all {ma : Option (List Bool)} (ha : EvB K ta σ H ma) : EvB K (tCB (rAll K) (tCons ta tNil)) σ H (o1 fAll ma) := eb_all ha
theorem x_sortI {ma : Option (List Int)} (ha : EvB K ta σ H ma) : EvN K (tCB (rSortedI K) (tCons ta tNil)) σ H (o1 fSortI ma) := en_sorted ha
theorem x_sortP {ma : Option (List (Int × Int))} (ha : EvB K ta σ H ma) : EvN K (tCB (rSortE K) (tCons ta tNil)) σ H (o1 fSortP ma) :=
  call1L (fun H v x c r hc Q q => by
    cases hc
    obtain ⟨p, vs, rfl, h2, h3⟩ := r
    exact ⟨p, vs, x, rfl, .inl h2, h3, fun ys p' hp r => q p' ys hp r⟩) ha
theorem x_sortPT {ma : Option (Tl (Int × Int))} (ha : EvB K ta σ H ma) : EvN K (tCB (rSortE K) (tCons ta tNil)) σ H (o1 fSortPT ma) :=
  call1L (fun H v x c r hc Q q => by
    cases hc
    obtain ⟨p, vs, rfl, h2, h3⟩ := r
    exact ⟨p, vs, x.l, rfl, .inr h2, h3, fun ys p' hp r => q p' ys hp r⟩) ha
/-- sorted(set(xs)) -/
theorem x_sortSet {w : World} {ma : Option (List Int)} (ha : EvB K ta σ H ma) : EvN K (tCB (rSortS w) (tCons (tCB (rSetL1 w) (tCons ta tNil)) tNil)) σ H (o1 fSortSet ma) := fun x hx H1 e Q q => by
  obtain ⟨a, e1, e3⟩ := o1s hx
  unfold fSortSet at e3
  by_cases hz : a.length ≤ 1000
  · rw [if_pos hz] at e3
    cases e3
    refine ha a e1 H1 e _ fun v H2 g2 r2 => ?_
    obtain ⟨p, vs, rfl, h2, h3⟩ := r2
    rw [al_int h3] at h2
    refine ⟨p, a, rfl, h2, hz, fun s c hs hc => ⟨s, _, c, rfl, upd_same, fun ns p' hp1 hm hp => ?_⟩⟩
    have gs := Gx.new (o := SetO w s (fun j => decide (j ∈ a)) c) hs
    have e5 : ns = sset a := lt_uniq hp1 (pw_sset a) fun k => by rw [hm k, decide_eq_true_iff, mem_sset]
    subst e5
    exact q p' _ _ (g2.back (gs.back hp)) ((g2.trans gs).trans (Gx.new hp)) upd_same (int_al _)
  · rw [if_neg hz] at e3; cases e3
theorem x_list {ma : Option (List A)} (ha : EvB K ta σ H ma) : EvN K (tCB (fun xs H Q => ∃ p ys, xs = [.ref p] ∧ (SqL K H p ys ∨ SqT K H p ys) ∧ ∀ l, H l = none → Q (.ref l) (upd H l (.lst ys))) (tCons ta tNil)) σ H (o1 fList ma) := en_list ha
theorem x_listT {ma : Option (Tl A)} (ha : EvB K ta σ H ma) : EvN K (tCB (fun xs H Q => ∃ p ys, xs = [.ref p] ∧ (SqL K H p ys ∨ SqT K H p ys) ∧ ∀ l, H l = none → Q (.ref l) (upd H l (.lst ys))) (tCons ta tNil)) σ H (o1 fListT ma) := en_listT ha
theorem x_tuple {ma : Option (List A)} (ha : EvB K ta σ H ma) : EvB K (tCB (fun xs H Q => ∃ p ys, xs = [.ref p] ∧ ((SqL K H p ys ∧ ∀ l, H l = none → Q (.ref l) (upd H l (.tup ys))) ∨ (SqT K H p ys ∧ Q (.ref p) H))) (tCons ta tNil)) σ H (o1 fTuple ma) := eb_tuple ha
theorem x_pair (ha : EvB K ta σ H ma) (hb : EvB K tb σ H mb) : EvB K (tTup (tCons ta (tCons tb tNil))) σ H (o2 fPair ma mb) := eb_tup2 ha hb
theorem x_trip (ha : EvB K ta σ H ma) (hb : EvB K tb σ H mb) (hc : EvB K tc σ H mc) : EvB K (tTup (tCons ta (tCons tb (tCons tc tNil)))) σ H (o3 fTrip ma mb mc) := eb_tup3 ha hb hc
theorem l_nil : EvL (A := A) K tNil σ H (some []) := el_nil
theorem l_cons {tr : TA} {mr : Option (List A)} (ha : EvB K ta σ H ma) (hr : EvL K tr σ H mr) : EvL K (tCons ta tr) σ H (o2 fCons ma mr) := el_cons ha hr
theorem x_lst {tr : TA} {mr : Option (List A)} (h : EvL K tr σ H mr) : EvN K (tLst tr) σ H (o1 szOk mr) := en_lst h
theorem x_tup {tr : TA} {mr : Option (List A)} (h : EvL K tr σ H mr) : EvB K (tTup tr) σ H (o1 fTup mr) := eb_tupl h
theorem x_cut {tl th : TO} {ma : Option (List A)} {ml mh : Option (Option Int)} (ha : EvB K te σ H ma) (hl : EvP tl σ H ml) (hh : EvP th σ H mh) : EvN K (tSl (rSlL K) te tl th) σ H (o3 fCut ma ml mh) := en_sl ha hl hh
theorem x_cutS {tl th : TO} {ma : Option Scr} {ml mh : Option (Option Int)} (ha : EvB K te σ H ma) (hl : EvP tl σ H ml) (hh : EvP th σ H mh) : EvN K (tSl (rSlL K) te tl th) σ H (o3 fCutS ma ml mh) := en_slS ha hl hh
theorem x_cutT {tl th : TO} {ma : Option (Tl A)} {ml mh : Option (Option Int)} (ha : EvB K te σ H ma) (hl : EvP tl σ H ml) (hh : EvP th σ H mh) : EvB K (tSl (rSlA K) te tl th) σ H (o3 fCutT ma ml mh) := eb_slT ha hl hh
theorem x_step {tl th : TO} {ma : Option (List A)} {ml mh : Option (Option Int)} {n : Nat} (ha : EvB K te σ H ma) (hl : EvP tl σ H ml) (hh : EvP th σ H mh) : EvN K (tSl3 te tl th n) σ H (o3 (fStep n) ma ml mh) := en_sl3 ha hl hh
theorem x_rev {ma : Option (List A)} (ha : EvB K ta σ H ma) : EvN K (tRevL K ta) σ H (o1 fRev ma) := fun x hx H1 e Q q => by
  obtain ⟨a, e1, e3⟩ := o1s hx
  cases e3
  refine ha a e1 H1 e _ fun v H2 g2 r2 => ?_
  obtain ⟨p, vs, rfl, h2, h3⟩ := r2
  exact ⟨p, vs, rfl, SqL.of h2, fun p' hp => q p' _ _ (g2.back hp) (g2.trans (Gx.new hp)) upd_same (h3.rev.mono fun _ _ => Rp.mono (Gx.new hp))⟩
theorem x_cat {ma mb : Option (List A)} (ha : EvB K ta σ H ma) (hb : EvB K tb σ H mb) : EvN K (tOp rCat ta tb) σ H (o2 fCat ma mb) := en_cat ha hb
theorem x_catT {ma mb : Option (Tl A)} (ha : EvB K ta σ H ma) (hb : EvB K tb σ H mb) : EvB K (tOp (rCatA K) ta tb) σ H (o2 fCatT ma mb) := fun x hx H1 e Q q => by
  obtain ⟨a, b, e1, e2, e3⟩ := o2s hx
  obtain ⟨y, e4, e5⟩ := Option.map_eq_some_iff.mp e3
  obtain ⟨rfl, hz⟩ := szOks e4
  subst e5
  refine ha a e1 H1 e _ fun v H2 g2 r2 => hb b e2 H2 (e.trans g2) _ fun w H3 g3 r3 => ?_
  obtain ⟨p, vs, rfl, h2, h3⟩ := Rp.mono g3 r2
  obtain ⟨p2, vs2, rfl, h4, h5⟩ := r3
  refine ⟨p, p2, vs, vs2, rfl, rfl, SqT.of h2, SqT.of h4, ?_, fun h0 => q _ _ (g2.trans g3) ⟨p2, vs2, rfl, h4, ?_⟩, fun _ h0 => q _ _ (g2.trans g3) ⟨p, vs, rfl, h2, ?_⟩, fun _ _ p' hp => q _ _ ((g2.trans g3).trans (Gx.new hp)) ⟨p', _, rfl, upd_same, (h3.app h5).mono fun _ _ => Rp.mono (Gx.new hp)⟩⟩
  · rw [h3.len, h5.len, ← List.length_append]; exact Evl.sz_of hz
  · have := h3.app h5
    rw [h0] at this
    exact this
  · have := h3.app h5
    rw [h0, List.append_nil] at this
    exact this
theorem t_tru {ma : Option (List A)} (ha : EvB K ta σ H ma) : EvT (fun σ H Q => ta σ H fun x H' => ∃ k, TruV K x H' k ∧ Q k H') σ H (o1 fTru ma) := fun b hb H1 e Q q => by
  obtain ⟨a, e1, e3⟩ := o1s hb
  cases e3
  refine ha a e1 H1 e _ fun v H2 g2 r2 => ?_
  obtain ⟨p, vs, rfl, h2, h3⟩ := r2
  refine ⟨_, .inl ⟨vs, SqL.of h2, rfl⟩, ?_⟩
  have e6 : (!vs.isEmpty) = !a.isEmpty := by
    have := h3.len
    cases vs <;> cases a <;> first | rfl | (simp at this)
  rw [e6]
  exact q H2 g2
theorem t_truT {ma : Option (Tl A)} (ha : EvB K ta σ H ma) : EvT (fun σ H Q => ta σ H fun x H' => ∃ k, TruV K x H' k ∧ Q k H') σ H (o1 fTruT ma) := fun b hb H1 e Q q => by
  obtain ⟨a, e1, e3⟩ := o1s hb
  cases e3
  refine ha a e1 H1 e _ fun v H2 g2 r2 => ?_
  obtain ⟨p, vs, rfl, h2, h3⟩ := r2
  refine ⟨_, .inr (.inl ⟨vs, SqT.of h2, rfl⟩), ?_⟩
  have e6 : (!vs.isEmpty) = !a.l.isEmpty := by
    have := h3.len
    cases e7 : a.l <;> cases vs <;> first | rfl | (rw [e7] at this; simp at this)
  rw [e6]
  exact q H2 g2
theorem i_zip {ma : Option (List A)} {mb : Option (List B)} (h : EvS K ta σ M H ma) (h' : EvS K tb σ M H mb) : EvI K (iZip K (tCons ta (tCons tb tNil))) σ M H (o2 fZip ma mb) := ei_zip h h'
theorem i_zip3 {ma : Option (List A)} {mb : Option (List B)} {mc : Option (List C)} (h : EvS K ta σ M H ma) (h' : EvS K tb σ M H mb) (h2 : EvS K tc σ M H mc) : EvI K (iZip3 K (tCons ta (tCons tb (tCons tc tNil)))) σ M H (o3 fZip3 ma mb mc) := ei_zip3 h h' h2
theorem i_rng1 (h : EvB K ta σ H mi) : EvI K (iRng1 (tCons ta tNil)) σ M H (o1 fRng1 mi) := ei_rng1 h
theorem i_rng2 (h : EvB K ta σ H mi) (h' : EvB K tb σ H mj) : EvI K (iRng2 (tCons ta (tCons tb tNil))) σ M H (o2 fRng2 mi mj) := ei_rng2 h h'
theorem i_list {ma : Option (List A)} (h : EvS K ta σ M H ma) : EvI K (iList K ta) σ M H ma := ei_list h
theorem i_tup {ma : Option (Tl A)} (h : EvS K ta σ M H ma) : EvI K (iTup K ta) σ M H (ma.map Tl.l) := ei_tup h
theorem i_enum {ma : Option (List A)} (h : EvS K ta σ M H ma) : EvI K (iEnum K (tCons ta tNil)) σ M H (ma.map enum) := ei_enum h
/-- a new list is not among what may change -/
theorem es_n [Im A] {ma : Option (List A)} (h : EvN K te σ H ma) (hM : forall p, p ∈ M -> exists o, H p = some o ∧ Mu o) : EvS K te σ M H ma := fun x hx H1 e1 Q q => h x hx H1 e1 Q fun p vs H2 hp g h2 r => by
  have np : p ∉ M := fun z => by
    obtain ⟨o, ho, _⟩ := hM p z
    rw [e1 _ _ ho] at hp; cases hp
  refine q (.ref p) H2 g ⟨p, vs, rfl, (mns_out np).trans h2, r.mono fun _ _ => Im.im fun b xs hb => ?_⟩
  have z : b ∉ M := fun y => by
    obtain ⟨o, ho, mu⟩ := hM b y
    have := (e1.trans g) b o ho
    rw [this] at hb
    rw [Option.some.inj hb] at mu
    exact mu
  exact (mns_out z).trans hb
theorem x_lc {I : Type} [Rp I] [Im A] {wi : TI} {g : TG} {b : Bd I} {vs : List Nat} {mx : Option (List I)} {c : I -> Option Bool} {f : I -> Option A} (hi : EvI K wi σ [] H mx) (hg : TgOk K g b) (hb : BdIn b vs)
    (ht : forall x σ2 H', Gx H H' -> b x (wipe σ vs) H' σ2 -> EvT tt σ2 H' (c x)) (he : forall x σ2 H', Gx H H' -> b x (wipe σ vs) H' σ2 -> EvB K te σ2 H' (f x)) : EvN K (tLc wi g tt te vs) σ H (oComp c f mx) := en_lc hi hg hb ht he
theorem x_lcK [Im A] {g : TG} {b : Bd Int} {vs : List Nat} {p : Addr} {kvs : List (Key × V)} {F : V -> B -> Prop} {d : List (Int × B)} {c : Int -> Option Bool} {f : Int -> Option A} (hs : σ[i]? = some (some (.ref p))) (hd : H p = some (.dK kvs)) (hr : Da F kvs d) (hg : TgOk K g b) (hb : BdIn b vs)
    (ht : forall x σ2 H', Gx (mns H [p]) H' -> b x (wipe σ vs) H' σ2 -> EvT tt σ2 H' (c x)) (he : forall x σ2 H', Gx (mns H [p]) H' -> b x (wipe σ vs) H' σ2 -> EvB K te σ2 H' (f x)) : EvN K (tLockE (tLc (iKeys (tVar i)) g tt te vs)) σ H (oComp c f (some (d.map (·.1)))) := en_lcK hs hd hr hg hb ht he
theorem t_yes : EvT tYes σ H (some true) := fun b hb H1 e Q q => by
  cases hb
  exact q H1 Gx.rfl
end
end Pu

set_option Elab.async false
set_option linter.all false
set_option maxRecDepth 100000
namespace Pu
open Pu.Rp (rp)
open PySem PySem.Spec PyProof.Rows L2
/-! helpers for printed proofs -/
def fApp {A : Type} (xs : List A) (y : A) : Option (List A) := if xs.length < 100000 then some (xs ++ [y]) else none
theorem fApps {A : Type} {xs zs : List A} {y : A} (h : fApp xs y = some zs) : zs = xs ++ [y] ∧ xs.length < 100000 := by
  unfold fApp at h
  split at h
  · cases h; exact ⟨rfl, by assumption⟩
  · cases h
def fExt {A : Type} (xs ys : List A) : Option (List A) := if xs.length + ys.length ≤ 100000 then some (xs ++ ys) else none
theorem fExts {A : Type} {xs zs ys : List A} (h : fExt xs ys = some zs) : zs = xs ++ ys ∧ xs.length + ys.length ≤ 100000 := by
  unfold fExt at h
  split at h
  · cases h; exact ⟨rfl, by assumption⟩
  · cases h
def fSetL {A : Type} (xs : List A) (i : Int) (y : A) : Option (List A) := (ixN xs.length i).map fun j => xs.set j y
theorem fSets {A : Type} {xs zs : List A} {i : Int} {y : A} (h : fSetL xs i y = some zs) : exists j, ixN xs.length i = some j ∧ zs = xs.set j y := by
  obtain ⟨j, h1, h2⟩ := Option.map_eq_some_iff.mp h
  exact ⟨j, h1, h2.symm⟩
/-- the last one, and what is ahead of it -/
def fPop {A : Type} (xs : List A) : Option (A × List A) := (xs[xs.length - 1]?).map fun x => (x, xs.dropLast)
theorem fPops {A : Type} {xs : List A} {r : A × List A} (h : fPop xs = some r) : xs[xs.length - 1]? = some r.1 ∧ r.2 = xs.dropLast := by
  obtain ⟨x, h1, h2⟩ := Option.map_eq_some_iff.mp h
  subst h2
  exact ⟨h1, rfl⟩
def fDput {B : Type} (d : List (Int × B)) (k : Int) (x : B) : Option (List (Int × B)) := if d.length < 100000 then some (dput d k x) else none
theorem fDputs {B : Type} {d r : List (Int × B)} {k : Int} {x : B} (h : fDput d k x = some r) : r = dput d k x ∧ d.length < 100000 := by
  unfold fDput at h
  split at h
  · cases h; exact ⟨rfl, by assumption⟩
  · cases h
theorem At.hM {G H : Hp} {L : Led} {M : List Addr} (a : At G H L) (h : forall p, p ∈ M -> p ∈ L.map (·.1)) : forall p, p ∈ M -> G p = none := fun p hp => by
  obtain ⟨o, ho, e⟩ := List.mem_map.mp (h p hp)
  rw [← e]
  exact (a.led o ho).2.1
theorem At.hMu {G H : Hp} {L : Led} {M : List Addr} (a : At G H L) (h : forall p, p ∈ M -> p ∈ L.map (·.1)) : forall p, p ∈ M -> exists o, H p = some o ∧ Mu o := fun p hp => by
  obtain ⟨o, ho, e⟩ := List.mem_map.mp (h p hp)
  rw [← e]
  exact ⟨o.2, (a.led o ho).1, (a.led o ho).2.2⟩
theorem At.mn {G H : Hp} {L : Led} {M : List Addr} (a : At G H L) (h : forall p, p ∈ M -> p ∈ L.map (·.1)) : Gx G (mns H M) := mns_of a.ex (a.hM h)
section
variable {K : Fg} {A : Type} [Rp A] {G H : Hp} {L : Led} {M : List Addr} {σ : L2.St} {i : Nat}
theorem es_mv {p : Addr} {vs : List V} {xs : List A} (hs : σ[i]? = some (some (.ref p))) (a : At G H L) (hp : (p, HO.lst vs) ∈ L) (r : Al (rp K G) vs xs) (h : forall p, p ∈ M -> p ∈ L.map (·.1)) (hn : p ∉ M) : EvS K (tVar i) σ M H (some xs) := fun x hx H1 e1 Q q => by
  cases hx
  refine ⟨_, hs, q _ H1 Gx.rfl ⟨p, vs, rfl, (mns_out hn).trans (e1 _ _ (a.led _ hp).1), r.mono fun _ _ => Rp.mono ((a.mn h).trans (mns_mono e1))⟩⟩
end
end Pu
namespace Pu
open Pu.Rp (rp)
open PySem PySem.Spec PyProof.Rows L2
theorem finr {S R : Type} {k : S -> Option R} {res : S ⊕ R} {r r' : R} (h : res = .inr r) (hm : fin k res = some r') : r = r' := by
  subst h
  exact Option.some.inj hm
theorem brar {S S' R : Type} {k : S -> Option (S' ⊕ R)} {res : S ⊕ R} {r : R} {o : S' ⊕ R} (h : res = .inr r) (hm : braR k res = some o) : o = .inr r := by
  subst h
  exact (Option.some.inj hm).symm
theorem finl {S R : Type} {k : S -> Option R} {s : S} {r : Option R} (hm : fin k (.inl s) = r) : k s = r := hm
theorem bral {S S' R : Type} {k : S -> Option (S' ⊕ R)} {s : S} {r : Option (S' ⊕ R)} (hm : braR k (.inl s) = r) : k s = r := hm
theorem al_dl {A : Type} {F : V -> A -> Prop} {vs : List V} {xs : List A} (q : Al F vs xs) : Al F vs.dropLast xs.dropLast := by
  rw [List.dropLast_eq_take, List.dropLast_eq_take, q.len]
  exact q.take _
section
variable {K : Fg} {A B : Type} [Rp A] [Rp B] {G H : Hp} {L : Led} {M : List Addr} {σ : L2.St} {te ta : TE} {t1 u : TS} {X : Ends} {j i : Nat}
/-- a list whose items stand as they stood ahead of the loop -/
def WkL (K : Fg) (J : It) (xs : List A) (S : Hp) : Prop :=
  (forall i H, i < xs.length -> Gx S H -> J.go i H) ∧ (forall H, Gx S H -> J.stop xs.length H) ∧ (forall i H v H' x, Gx S H -> xs[i]? = some x -> J.yld i H v H' -> H' = H ∧ rp K S v x)
def EvJ (K : Fg) (wi : TI) (σ : L2.St) (M : List Addr) (H : Hp) (m : Option (List A)) : Prop :=
  forall xs, m = some xs -> forall H1, Gx H H1 -> forall R : It -> Hp -> Prop, (forall J H2, Gx H1 H2 -> WkL K J xs (mns H2 M) -> R J H2) -> wi σ H1 R
theorem j_list {ma : Option (List A)} (h : EvS K ta σ M H ma) : EvJ K (iList K ta) σ M H ma := fun xs hx H1 e R q =>
  h xs hx H1 e _ fun v H2 g r => by
    obtain ⟨a, vs, rfl, h2, h3⟩ := r
    refine ⟨a, rfl, ⟨vs, SqL.of (mns_ex _ _ h2)⟩, q _ H2 g ⟨fun i H hi e => ?_, fun H e => ⟨vs, SqL.of (e _ _ h2), by rw [h3.len]; exact Nat.le_refl _⟩, fun i H v H' x e hx y => ?_⟩⟩
    · obtain ⟨v, hv, _⟩ := h3.get (List.getElem?_eq_getElem hi)
      exact ⟨vs, v, SqL.of (e _ _ h2), hv⟩
    · obtain ⟨rfl, y⟩ := y
      obtain ⟨w, hw, rw'⟩ := h3.get hx
      have q := y vs (SqL.of (e _ _ h2))
      rw [hw] at q
      cases q
      exact ⟨rfl, rw'⟩
theorem st_forJ {wi : TI} {g : TG} {mx : Option (List A)} {xs : List A} (hi : EvJ K wi σ M H mx) (hx : mx = some xs)
    (k : forall J H2, Gx H H2 -> WkL K J xs (mns H2 M) -> exists W : Nat -> Nat -> L2.St -> Hp -> Prop, (exists m, W 0 m σ H2) ∧ forall i m σ H, W i m σ H ->
      (J.stop i H ∧ u X σ H) ∨ (J.go i H ∧ exists N : L2.St -> Hp -> Prop, (forall σ' H', N σ' H' -> exists m', m' < m ∧ W (i + 1) m' σ' H') ∧ forall x H', J.yld i H x H' -> g x σ H' fun σ2 H2 => t1 { X with nx := N, ct := N, bk := u X } σ2 H2)) : tSeq (tFor wi g t1) u X σ H :=
  hi xs hx H Gx.rfl _ fun J H2 e wk => k J H2 e wk
theorem fold_runJ {S : Type} {J : It} {xs : List A} {Sh : Hp} {f : S -> A -> Option S} {s0 s1 : S} {E0 : Ends} {H2 : Hp} {E1 : L2.St -> Hp -> Prop} (wk : WkL K J xs Sh) (hl : foldO f s0 xs = some s1)
    (In : S -> L2.St -> Hp -> Prop) (hS : forall s σ' H', In s σ' H' -> Gx Sh H') (h0 : In s0 σ H2)
    (hs : forall s x s' σ' H' v, x ∈ xs -> f s x = some s' -> In s σ' H' -> rp K Sh v x -> t1 { E0 with nx := In s', ct := In s', bk := E1 } (σ'.set j (some v)) H')
    (hd : forall σ' H', In s1 σ' H' -> E1 σ' H') :
    exists W : Nat -> Nat -> L2.St -> Hp -> Prop, (exists m, W 0 m σ H2) ∧ forall i m σ H, W i m σ H ->
      (J.stop i H ∧ E1 σ H) ∨ (J.go i H ∧ exists N : L2.St -> Hp -> Prop, (forall σ' H', N σ' H' -> exists m', m' < m ∧ W (i + 1) m' σ' H') ∧ forall x H', J.yld i H x H' -> gName j x σ H' fun σ2 H2 => t1 { E0 with nx := N, ct := N, bk := E1 } σ2 H2) := by
  refine ⟨fun i m σ H => m = xs.length - i ∧ i ≤ xs.length ∧ exists s, In s σ H ∧ foldO f s (xs.drop i) = some s1, ⟨xs.length, by simp, Nat.zero_le _, s0, h0, hl⟩, ?_⟩
  rintro i m σ' Hc ⟨rfl, hle, s, hin, hm⟩
  have gS := hS _ _ _ hin
  obtain ⟨go, stop, yld⟩ := wk
  by_cases hlt : i < xs.length
  · rw [List.drop_eq_getElem_cons hlt] at hm
    cases hf : f s xs[i] with
    | none => unfold foldO at hm; rw [hf] at hm; cases hm
    | some s' =>
      have hm' : foldO f s' (xs.drop (i + 1)) = some s1 := by
        unfold foldO at hm; rw [hf] at hm; exact hm
      refine .inr ⟨go i Hc hlt gS, In s', fun σ3 H3 hN => ⟨xs.length - (i + 1), by omega, rfl, hlt, s', hN, hm'⟩, fun v Hy hy => ?_⟩
      obtain ⟨rfl, ry⟩ := yld i Hc v Hy _ gS (List.getElem?_eq_getElem hlt) hy
      exact hs s xs[i] s' σ' _ v (List.getElem_mem hlt) hf hin ry
  · have hi : i = xs.length := by omega
    subst hi
    rw [List.drop_length] at hm
    cases hm
    exact .inl ⟨stop Hc gS, hd σ' Hc hin⟩
/-- a comprehension whose elements are new lists -/
theorem x_lcL {I : Type} [Rp I] [Im A] {wi : TI} {g : TG} {b : Bd I} {vs : List Nat} {mx : Option (List I)} {c : I -> Option Bool} {f : I -> Option (List A)} {tt : TT} (hi : EvI K wi σ [] H mx) (hg : TgOk K g b) (hb : BdIn b vs)
    (ht : forall x σ2 H', Gx H H' -> b x (wipe σ vs) H' σ2 -> EvT tt σ2 H' (c x)) (he : forall x σ2 H', Gx H H' -> b x (wipe σ vs) H' σ2 -> EvN K te σ2 H' (f x)) : EvB K (tLc wi g tt te vs) σ H (oComp c f mx) := fun r hr H1 e1 Q q => by
  cases mx with
  | none => cases hr
  | some xs =>
    have hr' : (lim 100000 xs).bind (comp c f) = some r := hr
    unfold lim at hr'
    by_cases hz : xs.length ≤ 100000
    · rw [if_pos hz] at hr'
      have hr2 : comp c f xs = some r := hr'
      refine hi xs rfl H1 e1 _ fun J H2 e2 wk => ?_
      rw [mns_nil] at wk
      intro D hD
      obtain ⟨go, stop, yld⟩ := wk
      refine ⟨fun i m Hc => m = xs.length - i ∧ i ≤ xs.length ∧ Gx H2 Hc ∧ exists vs' ys r', Hc D = some (.lst vs') ∧ Al (rp K (mns Hc [D])) vs' ys ∧ ys.length ≤ i ∧ comp c f (xs.drop i) = some r' ∧ r = ys ++ r',
        ⟨xs.length, by simp, Nat.zero_le _, Gx.new hD, [], [], r, upd_same, trivial, Nat.le_refl _, hr2, rfl⟩, ?_⟩
      rintro i m Hc ⟨rfl, hle, gc, vs', ys, r', hDc, ral, hlen, hcomp, rfl⟩
      by_cases hlt : i < xs.length
      · refine .inr ⟨go i Hc hlt gc, fun Hn => i + 1 ≤ xs.length ∧ Gx H2 Hn ∧ exists vs' ys' r'', Hn D = some (.lst vs') ∧ Al (rp K (mns Hn [D])) vs' ys' ∧ ys'.length ≤ i + 1 ∧ comp c f (xs.drop (i + 1)) = some r'' ∧ ys ++ r' = ys' ++ r'',
          fun Hn hn => ⟨xs.length - (i + 1), by omega, rfl, hn.1, hn.2⟩, fun v Hy hy => ?_⟩
        have hx := List.getElem?_eq_getElem hlt
        obtain ⟨gy, ry⟩ := yld i Hc v Hy _ gc hx hy
        have gH : Gx H Hy := (e1.trans e2).trans (gc.trans gy)
        refine hg _ v (wipe σ vs) Hy _ ry fun σ2 hσ => ⟨(hb _ _ _ _ hσ).trans (wipe_wipe σ vs), ?_⟩
        rw [List.drop_eq_getElem_cons hlt] at hcomp
        rcases comp_cons hcomp with ⟨hc, y, r2, hf, h2, rfl⟩ | ⟨hc, h2⟩
        · refine ht _ σ2 Hy gH hσ true hc Hy Gx.rfl _ fun H3 g3 => ite_tt ?_
          refine he _ σ2 Hy gH hσ y hf H3 g3 _ fun p' ws H4 hp' g4 h4p r4 => ?_
          have gD := gy.trans (g3.trans g4)
          have h4 : H4 D = some (.lst vs') := gD _ _ hDc
          have h3 : H3 D = some (.lst vs') := (gy.trans g3) _ _ hDc
          have np : p' ≠ D := fun z => by rw [z, h3] at hp'; cases hp'
          have tx : Tx H4 (mns (upd H4 D (.lst (vs' ++ [.ref p']))) [D]) := fun a xs q => by
            have na : a ≠ D := fun z => by rw [z, h4] at q; cases q
            rw [mns_out (by simpa using na), upd_ne na]; exact q
          have gm : Gx (mns Hc [D]) (mns (upd H4 D (.lst (vs' ++ [.ref p']))) [D]) := fun a o q => by
            have na : a ≠ D := fun z => by rw [z, mns_in (by simp)] at q; cases q
            rw [mns_out (by simpa using na)] at q
            rw [mns_out (by simpa using na), upd_ne na]; exact gD _ _ q
          refine ⟨vs', h4, ?_, hlt, (gc.trans gD).mut hD, vs' ++ [.ref p'], ys ++ [y], r2, upd_same, (ral.mono fun _ _ => Rp.mono gm).app (Al.one ⟨p', ws, rfl, ?_, r4.mono fun _ _ => Im.im tx⟩), ?_, h2, by simp⟩
          · rw [ral.len]; exact Evl.sz_lt (by omega)
          · rw [mns_out (by simpa using np), upd_ne np]; exact h4p
          · rw [List.length_append]; simp only [List.length_cons, List.length_nil]; omega
        · refine ht _ σ2 Hy gH hσ false hc Hy Gx.rfl _ fun H3 g3 => ite_ff ?_
          exact ⟨hlt, (gc.trans gy).trans g3, vs', ys, r', (gy.trans g3) _ _ hDc, ral.mono fun _ _ => Rp.mono (mns_mono (gy.trans g3)), by omega, h2, rfl⟩
      · have hi : i = xs.length := by omega
        subst hi
        rw [List.drop_length] at hcomp
        cases hcomp
        rw [List.append_nil] at *
        exact .inl ⟨stop Hc gc, q (.ref D) Hc (e2.trans gc) ⟨D, vs', rfl, hDc, ral.mono fun _ _ => Rp.mono mns_ex⟩⟩
    · rw [if_neg hz] at hr'
      cases hr'
theorem st_asg2 {m : Option A} {x : A} (h : EvO K te σ G H m) (hm : m = some x) (a : At G H L) (k : forall v G2 H2, Gx G G2 -> Gx H H2 -> At G2 H2 L -> rp K G2 v x -> u X ((σ.set i (some v)).set j (some v)) H2) : tSeq (tAsg2 te (gName i) (gName j)) u X σ H :=
  h x hm G H L Gx.rfl Gx.rfl a _ fun v G2 H2 g e a2 r => k v G2 H2 g e a2 r
end
end Pu

set_option Elab.async false
set_option linter.all false
set_option maxRecDepth 100000
namespace Pu
open Pu.Rp (rp)
open PySem PySem.Spec PyProof.Rows L2
/-! isinstance where the type is known -/
class Tyd (A : Type) [Rp A] where
  nm : String
  ty : forall {K : Fg} {H : Hp} {v : V} {x : A}, rp K H v x -> TyX K H v (.type nm)
instance : Tyd Int := ⟨"int", fun h => by cases h; exact .base (.int _)⟩
instance : Tyd Bool := ⟨"bool", fun h => by cases h; exact .base (.bl _)⟩
instance : Tyd Str := ⟨"str", fun h => by cases h; exact .base (.str _)⟩
instance : Tyd Unit := ⟨"NoneType", fun h => by cases h; exact .base .non⟩
instance {A B : Type} [Rp A] [Rp B] : Tyd (A × B) := ⟨"tuple", fun h => by obtain ⟨a, u, w, rfl, h2, _⟩ := h; exact .base (.tup h2)⟩
instance {A B C : Type} [Rp A] [Rp B] [Rp C] : Tyd (T3 A B C) := ⟨"tuple", fun h => by obtain ⟨a, u, w, z, rfl, h2, _⟩ := h; exact .base (.tup h2)⟩
instance {A : Type} [Rp A] : Tyd (Tl A) := ⟨"tuple", fun h => by obtain ⟨a, vs, rfl, h2, _⟩ := h; exact .base (.tup h2)⟩
instance {A : Type} [Rp A] : Tyd (List A) := ⟨"list", fun h => by obtain ⟨a, vs, rfl, h2, _⟩ := h; exact .base (.lst h2)⟩
def fIs {A : Type} (b : Bool) (_ : A) : Option Bool := some b
def fLen2 {A B : Type} (_ : A × B) : Option Int := some 2
section
variable {K : Fg} {A B C : Type} [Rp A] [Rp B] [Rp C] {σ : L2.St} {H : Hp} {ta : TE} {ma : Option A}
theorem x_isi [Tyd A] {n : String} {b : Bool} (h : PySem.W.kitOne K (.type (Tyd.nm A)) (.type n) = some b) (ha : EvB K ta σ H ma) : EvB K (tCB (rIsi K) (tCons ta (tCons (tC (.ty n)) tNil))) σ H (o1 (fIs b) ma) := fun x hx H1 e Q q => by
  obtain ⟨a, e1, e3⟩ := o1s hx
  cases e3
  exact ha a e1 H1 e _ fun v H2 g2 r2 => ⟨v, .ty n, _, _, b, rfl, .ty n, Tyd.ty r2, h, q _ H2 g2 rfl⟩
theorem x_len2 {ma : Option (A × B)} (ha : EvB K ta σ H ma) : EvB K (tCB (fun xs H Q => ∃ p ys, xs = [.ref p] ∧ (SqL K H p ys ∨ SqT K H p ys) ∧ Q (.int ys.length) H) (tCons ta tNil)) σ H (o1 fLen2 ma) :=
  call1 (fun H v x c r hc Q q => by
    cases hc
    obtain ⟨p, u, w, rfl, h2, h3⟩ := r
    exact ⟨p, _, rfl, .inr (SqT.of h2), q _ H Gx.rfl rfl⟩) ha
end
section
variable {K : Fg} {A : Type} [Rp A] {H : Hp} {L : Led}
theorem Gx.mutA {S G : Hp} {p : Addr} {o : HO} (e : Gx S H) (n : S p = none) (_ : At G (upd H p o) L) : Gx S (upd H p o) := e.mut n
theorem heapB {r : A} {Q : VK} (q : forall w H2, Gx H H2 -> rp K H2 w r -> Q w H2) : exists H0, Gx H0 H ∧ forall w H2, Gx H0 H2 -> rp K H2 w r -> Q w H2 := ⟨H, Gx.rfl, q⟩
theorem heapN {r : List A} {Q : VK} (q : forall p ws H2, H p = none -> Gx H H2 -> H2 p = some (.lst ws) -> Al (rp K H2) ws r -> Q (.ref p) H2) : exists H0, Gx H0 H ∧ forall p ws H2, H0 p = none -> Gx H0 H2 -> H2 p = some (.lst ws) -> Al (rp K H2) ws r -> Q (.ref p) H2 := ⟨H, Gx.rfl, q⟩
end
end Pu

set_option Elab.async false
set_option linter.all false
set_option maxRecDepth 100000
namespace Pu
open Pu.Rp (rp)
open PySem PySem.Spec PyProof.Rows L2
theorem at_obj {G H : Hp} {p : Addr} {o : HO} {L1 L2' : Led} (a : At G H (L1 ++ (p, o) :: L2')) : exists o', o' = o ∧ At G H (L1 ++ (p, o') :: L2') := ⟨o, rfl, a⟩
end Pu

set_option Elab.async false
set_option linter.all false
set_option maxRecDepth 100000
namespace Pu
open Pu.Rp (rp)
open PySem PySem.Spec PyProof.Rows L2
section
variable {K : Fg} {A B C D : Type} [Rp A] [Rp B] [Rp C] [Rp D]
variable {σ : L2.St} {G G' H H' : Hp} {L L1 L2' : Led} {M : List Addr} {te ta tb tc : TE} {tt tu : TT} {X : Ends} {t1 t2 u : TS} {i : Nat}
def whileO {S : Type} (c : S -> Option Bool) (f : S -> Option S) : Nat -> S -> Option S
  | 0, _ => none
  | n + 1, s => (c s).bind fun b => if b = true then (f s).bind fun s' => whileO c f n s' else some s
theorem whileO_M {S : Type} {c : S -> Option Bool} {f : S -> Option S} : forall {n : Nat} {s r : S}, whileO c f n s = some r -> whileM (R := Empty) c (fun s => (f s).map Sum.inl) n s = some (.inl r)
  | 0, s, r, h => by cases h
  | n + 1, s, r, h => by
    unfold whileO at h
    unfold whileM
    cases hc : c s with
    | none => rw [hc] at h; cases h
    | some b =>
      rw [hc] at h
      cases b with
      | false => exact congrArg some (congrArg Sum.inl (Option.some.inj (show some s = some r from h)))
      | true =>
        have h' : ((f s).bind fun s' => whileO c f n s') = some r := h
        cases hf : f s with
        | none => rw [hf] at h'; cases h'
        | some s' =>
          rw [hf] at h'
          exact whileO_M (n := n) h'
theorem st_whileO {S : Type} {c : S -> Option Bool} {f : S -> Option S} {n : Nat} {s0 s1 : S} (hl : whileO c f n s0 = some s1) (In : S -> L2.St -> Hp -> Prop) (h0 : In s0 σ H)
    (hc : forall s σ' H', In s σ' H' -> EvT tt σ' H' (c s))
    (hs : forall s s' σ' H' H'', c s = some true -> f s = some s' -> In s σ' H' -> Gx H' H'' -> t1 { X with nx := In s', ct := In s', bk := u X } σ' H'')
    (hd : forall σ' H' H'', In s1 σ' H' -> Gx H' H'' -> u X σ' H'') : tSeq (tWhile tt t1) u X σ H := by
  have hM := whileO_M hl
  refine ⟨fun m σ H => exists s, In s σ H ∧ whileO c f m s = some s1, ⟨n, s0, h0, hl⟩, ?_⟩
  rintro m σ' Hc ⟨s, hin, hm⟩
  cases m with
  | zero => cases hm
  | succ m =>
    unfold whileO at hm
    cases hb : c s with
    | none => rw [hb] at hm; cases hm
    | some b =>
      rw [hb] at hm
      refine hc s σ' Hc hin b hb Hc Gx.rfl _ fun H3 g3 => ?_
      cases b with
      | false =>
        have e : s = s1 := Option.some.inj (show some s = some s1 from hm)
        subst e
        exact ite_ff (hd σ' Hc H3 hin g3)
      | true =>
        refine ite_tt ?_
        cases hf : f s with
        | none => rw [hf] at hm; cases hm
        | some s' =>
          have hm' : whileO c f m s' = some s1 := by rw [hf] at hm; exact hm
          exact ⟨In s', fun σ3 H4 hN => ⟨m, by omega, s', hN, hm'⟩, hs s s' σ' Hc H3 hb hf hin g3⟩
/-! a list of lists that are changed where they stand -/
def lmE : List Addr -> List (List V) -> Led
  | p :: ps, vs :: vss => (p, HO.lst vs) :: lmE ps vss
  | _, _ => []
def lmL (pp : Addr) (ps : List Addr) (vss : List (List V)) : Led := (pp, HO.lst (ps.map V.ref)) :: lmE ps vss
def Al2 (K : Fg) (G : Hp) : List Addr -> List (List V) -> List (List A) -> Prop
  | [], [], [] => True
  | _ :: ps, vs :: vss, xs :: xss => Al (rp K G) vs xs ∧ Al2 K G ps vss xss
  | _, _, _ => False
theorem Al2.mono (g : Gx G G') : forall {ps : List Addr} {vss : List (List V)} {xss : List (List A)}, Al2 K G ps vss xss -> Al2 K G' ps vss xss
  | [], [], [], _ => trivial
  | _ :: ps, vs :: vss, xs :: xss, h => ⟨h.1.mono fun _ _ => Rp.mono g, Al2.mono (ps := ps) g h.2⟩
  | [], _ :: _, _, h => h.elim
  | [], [], _ :: _, h => h.elim
  | _ :: _, [], _, h => h.elim
  | _ :: _, _ :: _, [], h => h.elim
theorem lm_al (hp : forall e, e ∈ L -> H e.1 = some e.2) (g : Gx G H) : forall {ps : List Addr} {vss : List (List V)} {xss : List (List A)}, (forall e, e ∈ lmE ps vss -> e ∈ L) -> Al2 K G ps vss xss -> Al (rp K H) (ps.map V.ref) xss
  | [], [], [], _, _ => trivial
  | p :: ps, vs :: vss, xs :: xss, hm, h => ⟨⟨p, vs, rfl, hp _ (hm _ (List.Mem.head _)), h.1.mono fun _ _ => Rp.mono g⟩, lm_al (ps := ps) hp g (fun e he => hm e (List.Mem.tail _ he)) h.2⟩
  | [], _ :: _, _, _, h => h.elim
  | [], [], _ :: _, _, h => h.elim
  | _ :: _, [], _, _, h => h.elim
  | _ :: _, _ :: _, [], _, h => h.elim
theorem lm_rp {pp : Addr} {ps : List Addr} {vss : List (List V)} {xss : List (List A)} (a : At G H L) (hp : forall e, e ∈ lmL pp ps vss -> e ∈ L) (r : Al2 K G ps vss xss) : rp K H (.ref pp) xss :=
  ⟨pp, ps.map V.ref, rfl, (a.led _ (hp _ (List.Mem.head _))).1, lm_al (fun e he => (a.led e he).1) a.ex (fun e he => hp e (List.Mem.tail _ he)) r⟩
theorem lm_split : forall {j : Nat} {ps : List Addr} {vss : List (List V)} {xss : List (List A)} {xs : List A}, Al2 K G ps vss xss -> xss[j]? = some xs -> exists p vs L1 L2, ps[j]? = some p ∧ Al (rp K G) vs xs ∧ lmE ps vss = L1 ++ (p, HO.lst vs) :: L2 ∧ forall vs', lmE ps (vss.set j vs') = L1 ++ (p, HO.lst vs') :: L2
  | j, [], [], [], xs, _, h => by simp at h
  | 0, p :: ps, vs :: vss, xs :: xss, _, h, e => by
    cases e
    exact ⟨p, vs, [], lmE ps vss, rfl, h.1, rfl, fun _ => rfl⟩
  | j + 1, p :: ps, vs :: vss, xs :: xss, _, h, e => by
    obtain ⟨q, ws, L1, L2, a, b, c, d⟩ := lm_split (j := j) h.2 e
    refine ⟨q, ws, (p, HO.lst vs) :: L1, L2, a, b, by unfold lmE; rw [c]; rfl, fun vs' => ?_⟩
    rw [List.set_cons_succ]
    unfold lmE
    rw [d]
    rfl
  | _, [], _ :: _, _, _, h, _ => h.elim
  | _, [], [], _ :: _, _, h, _ => h.elim
  | _, _ :: _, [], _, _, h, _ => h.elim
  | _, _ :: _, _ :: _, [], _, h, _ => h.elim
theorem Al2.set {vs' : List V} {xs' : List A} (r : Al (rp K G) vs' xs') : forall {j : Nat} {ps : List Addr} {vss : List (List V)} {xss : List (List A)}, Al2 K G ps vss xss -> Al2 K G ps (vss.set j vs') (xss.set j xs')
  | _, [], [], [], _ => trivial
  | 0, p :: ps, vs :: vss, xs :: xss, h => ⟨r, h.2⟩
  | j + 1, p :: ps, vs :: vss, xs :: xss, h => ⟨h.1, Al2.set (j := j) r h.2⟩
  | _, [], _ :: _, _, h => h.elim
  | _, [], [], _ :: _, h => h.elim
  | _, _ :: _, [], _, h => h.elim
  | _, _ :: _, _ :: _, [], h => h.elim
theorem Al2.len : forall {ps : List Addr} {vss : List (List V)} {xss : List (List A)}, Al2 K G ps vss xss -> ps.length = xss.length
  | [], [], [], _ => rfl
  | _ :: ps, vs :: vss, xs :: xss, h => congrArg Nat.succ (Al2.len h.2)
  | [], _ :: _, _, h => h.elim
  | [], [], _ :: _, h => h.elim
  | _ :: _, [], _, h => h.elim
  | _ :: _, _ :: _, [], h => h.elim
/-- x[i].append(e) -/
def fAppAt (xss : List (List A)) (n : Int) (y : A) : Option (List (List A)) := (ixN xss.length n).bind fun j => (xss[j]?).bind fun xs => if xs.length < 100000 then some (xss.set j (xs ++ [y])) else none
theorem st_lm2 (a : At G H []) (k : forall pp ps vss H2, Gx H H2 -> (forall p, p ∈ ps -> H p = none) -> Al2 K G ps vss ([[], []] : List (List A)) -> At G H2 (lmL pp ps vss) -> u X (σ.set i (some (.ref pp))) H2) :
    tSeq (tAsg (tLst (tCons (tLst tNil) (tCons (tLst tNil) tNil))) (gName i)) u X σ H :=
  ⟨Nat.zero_le _, fun p1 h1 => ⟨Nat.zero_le _, fun p2 h2 => ⟨by show 2 ≤ sizeLine; exact Evl.sz_of (by decide), fun pp h3 => by
    have a1 := a.add h1 (o := HO.lst []) trivial
    have a2 := a1.add h2 (o := HO.lst []) trivial
    have a3 := a2.add h3 (o := HO.lst [V.ref p1, V.ref p2]) trivial
    have e1 : Gx H (upd H p1 (HO.lst [])) := Gx.new h1
    have e2 := Gx.new (o := HO.lst []) h2
    have e3 := Gx.new (o := HO.lst [V.ref p1, V.ref p2]) h3
    refine k pp [p1, p2] [[], []] _ ((e1.trans e2).trans e3) (fun p hp => ?_) ⟨trivial, trivial, trivial⟩ ⟨a3.ex, ?_, fun q hq => a3.led q ?_⟩
    · rcases List.mem_cons.mp hp with rfl | hp
      · exact h1
      · rw [List.mem_singleton.mp hp]
        exact e1.back h2
    · have := a3.nd
      simp only [lmL, lmE, List.map_cons, List.map_nil, List.nodup_cons, List.mem_cons, List.not_mem_nil, or_false] at this ⊢
      refine ⟨fun z => this.1 (z.elim .inr .inl), fun z => this.2.1 z.symm, ?_⟩
      exact ⟨fun z => z, List.nodup_nil⟩
    · simp only [lmL, lmE, List.mem_cons, List.not_mem_nil, or_false] at hq ⊢
      rcases hq with h | h | h
      · exact .inl h
      · exact .inr (.inr h)
      · exact .inr (.inl h)⟩⟩⟩
theorem lm_m : forall {ps : List Addr} {vss : List (List V)} {xss : List (List A)}, Al2 K G ps vss xss -> (lmE ps vss).map (·.1) = ps
  | [], [], [], _ => rfl
  | _ :: ps, vs :: vss, xs :: xss, h => congrArg _ (lm_m h.2)
  | [], _ :: _, _, h => h.elim
  | [], [], _ :: _, h => h.elim
  | _ :: _, [], _, h => h.elim
  | _ :: _, _ :: _, [], h => h.elim
theorem lm_M {pp : Addr} {ps : List Addr} {vss : List (List V)} {xss : List (List A)} {M1 : List Addr} (r : Al2 K G ps vss xss) (h : forall p, p ∈ M1 -> p ∈ L1.map (·.1)) : forall p, p ∈ M1 ++ ps -> p ∈ (L1 ++ lmL pp ps vss).map (·.1) := fun p hp => by
  rw [List.map_append]
  rcases List.mem_append.mp hp with hp | hp
  · exact List.mem_append_left _ (h p hp)
  · refine List.mem_append_right _ (List.mem_cons_of_mem _ ?_)
    rw [lm_m r]
    exact hp
theorem st_appAt {pp : Addr} {ps : List Addr} {vss : List (List V)} {xss zss : List (List A)} {iv : Nat} {m : Option A} {x : A} {mi : Option Int} {n : Int} (hs : σ[iv]? = some (some (.ref pp))) (hi : EvB K tb σ H mi) (hn : mi = some n)
    (h : EvO K te σ G H m) (hm : m = some x) (a : At G H (L1 ++ lmL pp ps vss)) (r : Al2 K G ps vss xss) (hz : fAppAt xss n x = some zss)
    (k : forall G2 H2 H3 p o vss', Gx G G2 -> Gx H H2 -> p ∈ ps -> H3 = upd H2 p o -> At G2 H2 (L1 ++ lmL pp ps vss) -> At G2 H3 (L1 ++ lmL pp ps vss') -> Al2 K G2 ps vss' zss -> u X σ H3) :
    tSeq (tDrop (tBM K "list" rAppend (tOp (rIxL K) (tVar iv) tb) (tCons te tNil))) u X σ H := by
  unfold fAppAt at hz
  obtain ⟨j, hj, hz⟩ := bnd hz
  obtain ⟨xs, hx, hz⟩ := bnd hz
  by_cases hl : xs.length < 100000
  · rw [if_pos hl] at hz
    cases hz
    obtain ⟨p, vs, M1, M2, hp, ra, e1, e2⟩ := lm_split r hx
    have hpp := (a.led (pp, .lst (ps.map V.ref)) (List.mem_append_right _ (List.Mem.head _))).1
    have hmem : (p, HO.lst vs) ∈ L1 ++ lmL pp ps vss := List.mem_append_right _ (List.mem_cons_of_mem _ (by rw [e1]; simp))
    refine ⟨_, hs, hi n hn H Gx.rfl _ fun w H1 g1 rw' => ⟨pp, ps.map V.ref, n, .ref p, rfl, rw', SqL.of (g1 _ _ hpp), ?_, ?_⟩⟩
    · unfold atI
      rw [List.length_map, r.len, hj]
      show (ps.map V.ref)[j]? = _
      rw [List.getElem?_map, hp]
      rfl
    · have a1 := a.grow g1
      have hq := (a1.led _ hmem).1
      refine ⟨Or.inl ⟨rfl, vs, SqL.of hq⟩, h x hm G H1 _ Gx.rfl g1 a1 _ fun v G2 H2 g2 g3 a2 rv => ⟨p, vs, v, rfl, rfl, g3 _ _ hq, Evl.sz_lt (by rw [ra.len]; exact hl), ?_⟩⟩
      have a3 : At G2 H2 ((L1 ++ (pp, HO.lst (ps.map V.ref)) :: M1) ++ (p, HO.lst vs) :: M2) := by
        have := a2
        unfold lmL at this
        rw [e1] at this
        simpa using this
      have a4 := a3.set (o' := HO.lst (vs ++ [v])) trivial
      refine k G2 H2 _ p _ (vss.set j (vs ++ [v])) g2 (g1.trans g3) (List.mem_of_getElem? hp) rfl a2 ?_ (Al2.set ((ra.mono fun _ _ => Rp.mono g2).app (Al.one rv)) (r.mono g2))
      unfold lmL
      rw [e2]
      simpa using a4
  · rw [if_neg hl] at hz
    cases hz
theorem lmE_nil {e : Addr × HO} : forall {ps : List Addr}, e ∈ lmE ps (ps.map fun _ => []) -> e.1 ∈ ps ∧ e.2 = HO.lst []
  | [], h => nomatch h
  | p :: ps, h => by
    rcases List.mem_cons.mp h with rfl | h
    · exact ⟨List.mem_cons_self, rfl⟩
    · have := lmE_nil (ps := ps) h
      exact ⟨List.mem_cons_of_mem _ this.1, this.2⟩
theorem lmE_map : forall {ps : List Addr}, (lmE ps (ps.map fun _ => [])).map (·.1) = ps
  | [] => rfl
  | p :: ps => congrArg _ (lmE_map (ps := ps))
theorem al2_nil : forall {ps : List Addr}, Al2 K G ps (ps.map fun _ => []) (ps.map fun _ => ([] : List A))
  | [] => trivial
  | _ :: ps => ⟨trivial, al2_nil (ps := ps)⟩
/-- x = [[] for k in ..] -/
theorem st_lmc {I : Type} [Rp I] {wi : TI} {g : TG} {b : Bd I} {vs : List Nat} {mx : Option (List I)} {xs : List I} (hi : EvI K wi σ [] H mx) (hx : mx = some xs) (hz : xs.length ≤ 100000) (hg : TgOk K g b) (hb : BdIn b vs)
    (ht : forall x σ2 H', Gx H H' -> b x (wipe σ vs) H' σ2 -> EvT tt σ2 H' (some true)) (a : At G H [])
    (k : forall pp ps vss H2, Gx H H2 -> (forall p, p ∈ ps -> H p = none) -> Al2 K G ps vss (xs.map fun _ => ([] : List A)) -> At G H2 (lmL pp ps vss) -> u X (σ.set i (some (.ref pp))) H2) :
    tSeq (tAsg (tLc wi g tt (tLst tNil) vs) (gName i)) u X σ H := by
  refine hi xs hx H Gx.rfl _ fun J H2 e2 wk => ?_
  rw [mns_nil] at wk
  intro D hD
  obtain ⟨go, stop, yld⟩ := wk
  refine ⟨fun i m Hc => m = xs.length - i ∧ i ≤ xs.length ∧ Gx H2 Hc ∧ exists ps : List Addr, Hc D = some (.lst (ps.map V.ref)) ∧ ps.length = i ∧ (D :: ps).Nodup ∧ forall p, p ∈ ps -> H2 p = none ∧ Hc p = some (.lst []),
    ⟨xs.length, by simp, Nat.zero_le _, Gx.new hD, [], upd_same, rfl, by simp, fun p hp => nomatch hp⟩, ?_⟩
  rintro j m Hc ⟨rfl, hle, gc, ps, hDc, hlen, nd, hps⟩
  by_cases hlt : j < xs.length
  · refine .inr ⟨go j Hc hlt gc, fun Hn => j + 1 ≤ xs.length ∧ Gx H2 Hn ∧ exists ps : List Addr, Hn D = some (.lst (ps.map V.ref)) ∧ ps.length = j + 1 ∧ (D :: ps).Nodup ∧ forall p, p ∈ ps -> H2 p = none ∧ Hn p = some (.lst []),
      fun Hn hn => ⟨xs.length - (j + 1), by omega, rfl, hn.1, hn.2⟩, fun v Hy hy => ?_⟩
    have hx' := List.getElem?_eq_getElem hlt
    obtain ⟨gy, ry⟩ := yld j Hc v Hy _ gc hx' hy
    have gH : Gx H Hy := e2.trans (gc.trans gy)
    refine hg _ v (wipe σ vs) Hy _ ry fun σ2 hσ => ⟨(hb _ _ _ _ hσ).trans (wipe_wipe σ vs), ?_⟩
    refine ht _ σ2 Hy gH hσ true rfl Hy Gx.rfl _ fun H3 g3 => ite_tt ?_
    refine ⟨Nat.zero_le _, fun p' hp' => ?_⟩
    have gD := gy.trans g3
    have h3 : H3 D = some (.lst (ps.map V.ref)) := gD _ _ hDc
    have np : p' ≠ D := fun z => by rw [z, h3] at hp'; cases hp'
    have nps : p' ∉ ps := fun z => by rw [gD _ _ (hps p' z).2] at hp'; cases hp'
    have h4 : upd H3 p' (HO.lst []) D = some (.lst (ps.map V.ref)) := by rw [upd_ne (fun z => np z.symm)]; exact h3
    refine ⟨ps.map V.ref, h4, by rw [List.length_map]; exact Evl.sz_lt (by omega), hlt, ?_, ps ++ [p'], ?_, ?_, ?_, fun p hp => ?_⟩
    · exact ((gc.trans gD).trans (Gx.new hp')).mut hD
    · rw [upd_same, List.map_append]; rfl
    · rw [List.length_append, hlen]; rfl
    · obtain ⟨n1, n2⟩ := List.nodup_cons.mp nd
      refine List.nodup_cons.mpr ⟨fun z => ?_, List.nodup_append.mpr ⟨n2, by simp, fun q hq r hr => ?_⟩⟩
      · rcases List.mem_append.mp z with z | z
        · exact n1 z
        · exact np (List.mem_singleton.mp z).symm
      · rw [List.mem_singleton.mp hr]
        intro z
        exact nps (z ▸ hq)
    · have nD : p ≠ D := by
        rcases List.mem_append.mp hp with z | z
        · intro y
          exact (List.nodup_cons.mp nd).1 (y ▸ z)
        · rw [List.mem_singleton.mp z]; exact np
      rcases List.mem_append.mp hp with z | z
      · have q : p ≠ p' := fun y => nps (y ▸ z)
        exact ⟨(hps p z).1, by rw [upd_ne nD, upd_ne q]; exact gD _ _ (hps p z).2⟩
      · rw [List.mem_singleton.mp z] at nD ⊢
        exact ⟨(gc.trans gD).back hp', by rw [upd_ne nD, upd_same]⟩
  · have hi : j = xs.length := by omega
    subst hi
    refine .inl ⟨stop Hc gc, ?_⟩
    have e0 := e2.trans gc
    have hm : (xs.map fun _ => ([] : List A)) = ps.map fun _ => [] := by
      apply List.ext_getElem
      · simp [hlen]
      · intro n h1 h2; simp
    refine k D ps (ps.map fun _ => []) Hc e0 (fun p hp => e2.back (hps p hp).1) (by rw [hm]; exact al2_nil) ⟨a.ex.trans e0, ?_, fun e he => ?_⟩
    · show (D :: (lmE ps _).map (·.1)).Nodup
      rw [lmE_map]; exact nd
    · rcases List.mem_cons.mp he with rfl | he
      · exact ⟨hDc, a.ex.back (e2.back hD), trivial⟩
      · obtain ⟨x1, x2⟩ := lmE_nil he
        obtain ⟨ea, eo⟩ := e
        simp only at x1 x2
        subst x2
        exact ⟨(hps _ x1).2, a.ex.back (e2.back (hps _ x1).1), trivial⟩
def oLim {I : Type} (m : Option (List I)) : Option (List I) := m.bind (lim 100000)
theorem oLims {I : Type} {m : Option (List I)} {xs : List I} (h : oLim m = some xs) : m = some xs ∧ xs.length ≤ 100000 := by
  unfold oLim at h
  obtain ⟨ys, e, h⟩ := bnd h
  unfold lim at h
  split at h
  · cases h; exact ⟨e, by assumption⟩
  · cases h
end
section
variable {X : Cx} {K : Fg}
theorem ixT_K (h : X.K = K) : IxR X (rIxT K) := h ▸ ix_tup
theorem ixL_K (h : X.K = K) : IxR X (rIxL K) := h ▸ ix_list
theorem slL_K (h : X.K = K) : SlR X (rSlL K) := h ▸ sl_list
theorem slA_K (h : X.K = K) : SlR X (rSlA K) := h ▸ sl_tupA
theorem opEq_K (h : X.K = K) (hu : X.A.units + 64 < cLine) : OpR X (compareOp .Eq) (rEqD K) := h ▸ op_eqD hu
theorem opNe_K (h : X.K = K) (hu : X.A.units + 64 < cLine) : OpR X (compareOp .NotEq) (rNeD K) := h ▸ op_neD hu
theorem len_K (h : X.K = K) : CallR X (.builtin "len") (fun xs H Q => ∃ p ys, xs = [V.ref p] ∧ (SqL K H p ys ∨ SqT K H p ys) ∧ Q (V.int ys.length) H) := h ▸ call_len_seq
theorem isi_K (h : X.K = K) : CallR X (.builtin "isinstance") (rIsi K) := h ▸ call_isi
theorem lof_K (h : X.K = K) : CallR X (.type "list") (fun xs H Q => ∃ p ys, xs = [V.ref p] ∧ (SqL K H p ys ∨ SqT K H p ys) ∧ ∀ l, H l = none → Q (V.ref l) (upd H l (.lst ys))) := h ▸ call_list_of
theorem tof_K (h : X.K = K) : CallR X (.type "tuple") (fun xs H Q => ∃ p ys, xs = [V.ref p] ∧ ((SqL K H p ys ∧ ∀ l, H l = none → Q (V.ref l) (upd H l (.tup ys))) ∨ (SqT K H p ys ∧ Q (V.ref p) H))) := h ▸ call_tuple_of
end
end Pu

set_option Elab.async false
set_option linter.all false
set_option maxRecDepth 100000
namespace Pu
open Pu.Rp (rp)
open PySem PySem.Spec PyProof.Rows L2
/-! a number or None -/
instance {A : Type} [Rp A] : Rp (Option A) where
  rp K H v x := match x with
    | none => v = .non
    | some a => rp K H v a
  mono {K H H' v x} e h := by
    cases x with
    | none => exact h
    | some a => exact Rp.mono e h
instance {A : Type} [Rp A] [Im A] : Im (Option A) := ⟨fun {K H H' v x} e h => by
  cases x with
  | none => exact h
  | some a => exact Im.im (A := A) e h⟩
instance : Eqd (Option Int) where
  enc x := match x with
    | none => .none
    | some i => .int i
  dp {K H v x} h := by
    cases x with
    | none => cases (show v = V.non from h); exact .non
    | some i => cases (show v = V.int i from h); exact .int _
  lay x := by cases x <;> simp [PyData.canLay0]
  dep := 0
  deep x := by cases x <;> simp [PyData.depth]
  eqv x y := by
    cases x with
    | none =>
      cases y with
      | none => simp [PyData.eqv]
      | some j => simp [PyData.eqv]
    | some i =>
      cases y with
      | none => simp [PyData.eqv]
      | some j =>
        rw [PyData.eqv]
        by_cases h : i = j <;> simp [h]
section
variable {K : Fg} {A B C D : Type} [Rp A] [Rp B] [Rp C] [Rp D]
variable {σ : L2.St} {G G' H H' : Hp} {L L1 L2' : Led} {M : List Addr} {te ta tb tc : TE} {tt tu : TT} {X : Ends} {t1 t2 u : TS} {i : Nat}
theorem x_some {m : Option A} (h : EvB K te σ H m) : EvB (A := Option A) K te σ H (m.map some) := fun x hx H1 e Q q => by
  obtain ⟨a, ha, rfl⟩ := Option.map_eq_some_iff.mp hx
  exact h a ha H1 e Q q
theorem x_none : EvB (A := Option A) K (tC .non) σ H (some none) := fun x hx H1 e Q q => by
  cases hx
  exact q _ H1 Gx.rfl rfl
/-! min(xs, default=..) of a list of ints -/
def rMinD (K : Fg) : List V -> List V -> Hp -> VK -> Prop := fun vs zs H Q => exists (a : Addr) (ns : List Int) (d : V), vs = [V.ref a] ∧ zs = [d] ∧ SqL K H a (ns.map V.int) ∧ Q (match ns with | [] => d | n :: r => .int (r.foldl min n)) H
theorem alikeAll_int (ns : List Int) : PySem.W.AlikeAll (ns.map PyData.int) :=
  ⟨fun x hx y hy => by
    obtain ⟨a, _, rfl⟩ := List.mem_map.mp hx
    obtain ⟨b, _, rfl⟩ := List.mem_map.mp hy
    rfl, fun x hx => by
    obtain ⟨a, _, rfl⟩ := List.mem_map.mp hx
    intro h; cases h⟩
theorem depth_ints : forall ns : List Int, PyData.depthAll (ns.map PyData.int) = 0
  | [] => by simp [PyData.depthAll]
  | n :: r => by
    rw [List.map_cons, PyData.depthAll, depth_ints r]
    simp [PyData.depth]
end
theorem cr_minD {X : Cx} {K : Fg} (hk : X.K = K) (hc : X.calm = true) (hu : X.A.units + 64 < cLine) : CallRK X (.builtin "min") [Str.ofString "default"] (rMinD K) := by
  subst hk
  intro pins s σ H vs zs us ws Q I r rz h
  obtain ⟨a, ns, d, rfl, rfl, hs, q⟩ := h
  obtain ⟨its, rv, hl, _⟩ := I.list hs
  obtain rfl := Vals.ref1 r
  obtain ⟨w1, rfl, e1⟩ := vals1 rz
  have ia := rv.ints
  refine PySem.W.min_list_default (I.ok.hd hc) hl.isList (IntsAre.reads _ ia) (alikeAll_int ns) (by rw [depth_ints]; omega) (fun h0 h' tk hk => ?_) (fun y ys i v h' tk bs he hv hr hk => ?_)
  · cases ns with
    | nil => exact ⟨d, H, I.kept hk, e1, q⟩
    | cons n r => cases h0
  · cases ns with
    | nil => cases he
    | cons n r =>
      rw [List.map_cons] at he
      injection he with h1 h2
      subst h1 h2
      rw [PySem.W.minD_ints] at hr
      obtain ⟨t, rfl, _⟩ := reads_int_inv hr
      exact ⟨.int _, H, I.kept hk, ⟨_, rfl⟩, q⟩
section
variable {K : Fg} {A B C D : Type} [Rp A] [Rp B] [Rp C] [Rp D]
variable {σ : L2.St} {G G' H H' : Hp} {L L1 L2' : Led} {M : List Addr} {te ta tb tc : TE} {tt tu : TT} {X : Ends} {t1 t2 u : TS} {i : Nat}
def fMinN (x : List Int) : Option (Option Int) := some (match x with | [] => none | n :: r => some (r.foldl min n))
theorem x_minN {ma : Option (List Int)} (ha : EvB K ta σ H ma) : EvB K (tCKw (rMinD K) (tCons ta tNil) (tCons (tC .non) tNil)) σ H (o1 fMinN ma) := fun x hx H1 e Q q => by
  obtain ⟨ns, e1, e2⟩ := o1s hx
  unfold fMinN at e2
  cases e2
  refine ha ns e1 H1 e _ fun v H2 g r => ?_
  obtain ⟨p, vs, rfl, h2, h3⟩ := r
  rw [al_int h3] at h2
  refine ⟨p, ns, .non, rfl, rfl, SqL.of h2, ?_⟩
  cases ns with
  | nil => exact q _ H2 g rfl
  | cons n r => exact q _ H2 g rfl
/-! new lists of new lists -/
def Nl (K : Fg) (H1 H2 : Hp) (p : Addr) : List V -> List (List A) -> Prop := Al fun v xs => exists (p' : Addr) (ws : List V), v = .ref p' ∧ H1 p' = none ∧ p' ≠ p ∧ H2 p' = some (.lst ws) ∧ Al (rp K H2) ws xs
def EvQ (K : Fg) (te : TE) (σ : L2.St) (H : Hp) (m : Option (List (List A))) : Prop :=
  forall xs, m = some xs -> forall H1, Gx H H1 -> forall Q : VK, (forall p vs H2, H1 p = none -> Gx H1 H2 -> H2 p = some (.lst vs) -> Nl K H1 H2 p vs xs -> Q (.ref p) H2) -> te σ H1 Q
theorem EvQ.b {m : Option (List (List A))} (h : EvQ K te σ H m) : EvB K te σ H m := fun x hx H1 e Q q => h x hx H1 e Q fun p vs H2 hn g h2 r => q (.ref p) H2 g ⟨p, vs, rfl, h2, r.mono fun v xs z => by
  obtain ⟨p', ws, a, _, _, b, c⟩ := z
  exact ⟨p', ws, a, b, c⟩⟩
theorem st_newQ [Im A] {m : Option (List (List A))} {x : List (List A)} (h : EvQ K te σ H m) (hm : m = some x) (a : At G H L) (k : forall p vs G2 H2, H p = none -> Gx G G2 -> Gx H H2 -> At G2 H2 ((p, .lst vs) :: L) -> Al (rp K G2) vs x -> u X (σ.set i (some (.ref p))) H2) : tSeq (tAsg te (gName i)) u X σ H :=
  h x hm H Gx.rfl _ fun p vs H2 hp g h2 r => by
    have a2 : At G H2 ((p, .lst vs) :: L) := by
      refine ⟨a.ex.trans g, List.nodup_cons.mpr ⟨a.fresh hp, a.nd⟩, fun q hq => ?_⟩
      rcases List.mem_cons.mp hq with rfl | hq
      · exact ⟨h2, a.ex.back hp, trivial⟩
      · exact (a.grow g).led q hq
    refine k p vs (hid H2 ((p, .lst vs) :: L)) H2 hp a2.gh g a2.hid (r.mono fun v xs z => ?_)
    obtain ⟨p', ws, e1, e2, e3, e4, e5⟩ := z
    refine ⟨p', ws, e1, ?_, e5.mono fun _ _ => Im.im a2.tx⟩
    rw [hid_out]
    · exact e4
    · intro z
      rcases List.mem_cons.mp z with z | z
      · exact e3 z
      · exact a.fresh e2 z
theorem x_lcQ {I : Type} [Rp I] [Im A] {wi : TI} {g : TG} {b : Bd I} {vs : List Nat} {mx : Option (List I)} {c : I -> Option Bool} {f : I -> Option (List A)} {tt : TT} (hi : EvI K wi σ [] H mx) (hg : TgOk K g b) (hb : BdIn b vs)
    (ht : forall x σ2 H', Gx H H' -> b x (wipe σ vs) H' σ2 -> EvT tt σ2 H' (c x)) (he : forall x σ2 H', Gx H H' -> b x (wipe σ vs) H' σ2 -> EvN K te σ2 H' (f x)) : EvQ K (tLc wi g tt te vs) σ H (oComp c f mx) := fun r hr H1 e1 Q q => by
  cases mx with
  | none => cases hr
  | some xs =>
    have hr' : (lim 100000 xs).bind (comp c f) = some r := hr
    unfold lim at hr'
    by_cases hz : xs.length ≤ 100000
    · rw [if_pos hz] at hr'
      have hr2 : comp c f xs = some r := hr'
      refine hi xs rfl H1 e1 _ fun J H2 e2 wk => ?_
      rw [mns_nil] at wk
      intro D hD
      obtain ⟨go, stop, yld⟩ := wk
      refine ⟨fun i m Hc => m = xs.length - i ∧ i ≤ xs.length ∧ Gx H2 Hc ∧ exists vs' ys r', Hc D = some (.lst vs') ∧ Nl K H1 Hc D vs' ys ∧ ys.length ≤ i ∧ comp c f (xs.drop i) = some r' ∧ r = ys ++ r',
        ⟨xs.length, by simp, Nat.zero_le _, Gx.new hD, [], [], r, upd_same, trivial, Nat.le_refl _, hr2, rfl⟩, ?_⟩
      have mv : forall (Ha Hb : Hp) (vs' : List V) (ys : List (List A)), Gx Ha Hb -> Nl K H1 Ha D vs' ys -> Nl K H1 Hb D vs' ys := fun Ha Hb vs' ys ga n => n.mono fun v xs z => by
        obtain ⟨p', ws, a1, a2, a3, a4, a5⟩ := z
        exact ⟨p', ws, a1, a2, a3, ga _ _ a4, a5.mono fun _ _ => Rp.mono ga⟩
      rintro i m Hc ⟨rfl, hle, gc, vs', ys, r', hDc, ral, hlen, hcomp, rfl⟩
      by_cases hlt : i < xs.length
      · refine .inr ⟨go i Hc hlt gc, fun Hn => i + 1 ≤ xs.length ∧ Gx H2 Hn ∧ exists vs' ys' r'', Hn D = some (.lst vs') ∧ Nl K H1 Hn D vs' ys' ∧ ys'.length ≤ i + 1 ∧ comp c f (xs.drop (i + 1)) = some r'' ∧ ys ++ r' = ys' ++ r'',
          fun Hn hn => ⟨xs.length - (i + 1), by omega, rfl, hn.1, hn.2⟩, fun v Hy hy => ?_⟩
        have hx := List.getElem?_eq_getElem hlt
        obtain ⟨gy, ry⟩ := yld i Hc v Hy _ gc hx hy
        have gH : Gx H Hy := (e1.trans e2).trans (gc.trans gy)
        refine hg _ v (wipe σ vs) Hy _ ry fun σ2 hσ => ⟨(hb _ _ _ _ hσ).trans (wipe_wipe σ vs), ?_⟩
        rw [List.drop_eq_getElem_cons hlt] at hcomp
        rcases comp_cons hcomp with ⟨hc, y, r2, hf, h2, rfl⟩ | ⟨hc, h2⟩
        · refine ht _ σ2 Hy gH hσ true hc Hy Gx.rfl _ fun H3 g3 => ite_tt ?_
          refine he _ σ2 Hy gH hσ y hf H3 g3 _ fun p' ws H4 hp' g4 h4p r4 => ?_
          have gD := gy.trans (g3.trans g4)
          have h4 : H4 D = some (.lst vs') := gD _ _ hDc
          have h3 : H3 D = some (.lst vs') := (gy.trans g3) _ _ hDc
          have np : p' ≠ D := fun z => by rw [z, h3] at hp'; cases hp'
          have tx : Tx H4 (upd H4 D (.lst (vs' ++ [.ref p']))) := fun a xs q => by
            have na : a ≠ D := fun z => by rw [z, h4] at q; cases q
            rw [upd_ne na]; exact q
          have r1 := mv Hc H4 vs' ys gD ral
          have r5 : Nl K H1 (upd H4 D (.lst (vs' ++ [.ref p']))) D vs' ys := r1.mono fun v xs z => by
            obtain ⟨p2, w2, a1, a2, a3, a4, a5⟩ := z
            exact ⟨p2, w2, a1, a2, a3, by rw [upd_ne a3]; exact a4, a5.mono fun _ _ => Im.im tx⟩
          refine ⟨vs', h4, ?_, hlt, (gc.trans gD).mut hD, vs' ++ [.ref p'], ys ++ [y], r2, upd_same, Al.app r5 (Al.one ⟨p', ws, rfl, (e2.trans (gc.trans (gy.trans g3))).back hp', np, by rw [upd_ne np]; exact h4p, r4.mono fun _ _ => Im.im tx⟩), ?_, h2, by simp⟩
          · rw [ral.len]; exact Evl.sz_lt (by omega)
          · rw [List.length_append]; simp only [List.length_cons, List.length_nil]; omega
        · refine ht _ σ2 Hy gH hσ false hc Hy Gx.rfl _ fun H3 g3 => ite_ff ?_
          exact ⟨hlt, (gc.trans gy).trans g3, vs', ys, r', (gy.trans g3) _ _ hDc, mv Hc H3 vs' ys (gy.trans g3) ral, by omega, h2, rfl⟩
      · have hi : i = xs.length := by omega
        subst hi
        rw [List.drop_length] at hcomp
        cases hcomp
        rw [List.append_nil] at *
        exact .inl ⟨stop Hc gc, q D vs' Hc (e2.back hD) (e2.trans gc) hDc ral⟩
    · rw [if_neg hz] at hr'
      cases hr'
def o5 {A B C D E R : Type} (f : A -> B -> C -> D -> E -> Option R) (ma : Option A) (mb : Option B) (mc : Option C) (md : Option D) (me : Option E) : Option R := ma.bind fun a => mb.bind fun b => mc.bind fun c => md.bind fun d => me.bind fun e => f a b c d e
theorem em5 {T5 R : Type} [Rp T5] [Rp R] {td tf : TE} {f : A -> B -> C -> D -> T5 -> Option R} {ma : Option A} {mb : Option B} {mc : Option C} {md : Option D} {me : Option T5} (ha : EvB K ta σ H ma) (hb : EvB K tb σ H mb) (hc : EvB K tc σ H mc) (hd : EvB K td σ H md) (he : EvB K tf σ H me) : EvM (tCons ta (tCons tb (tCons tc (tCons td (tCons tf tNil))))) σ H (A5 K f) (o5 f ma mb mc md me) := fun r hr H1 e Q q => by
  obtain ⟨x, e1, hr⟩ := bnd hr
  obtain ⟨y, e2, hr⟩ := bnd hr
  obtain ⟨z, e3, hr⟩ := bnd hr
  obtain ⟨w0, e4, hr⟩ := bnd hr
  obtain ⟨u0, e5, hr⟩ := bnd hr
  exact ha x e1 H1 e _ fun v H2 g2 r2 => hb y e2 H2 (e.trans g2) _ fun w H3 g3 r3 => hc z e3 H3 ((e.trans g2).trans g3) _ fun w3 H4 g4 r4 => hd w0 e4 H4 (((e.trans g2).trans g3).trans g4) _ fun w4 H5 g5 r5 => he u0 e5 H5 ((((e.trans g2).trans g3).trans g4).trans g5) _ fun w5 H6 g6 r6 => q _ H6 ((((g2.trans g3).trans g4).trans g5).trans g6) ⟨v, w, w3, w4, w5, x, y, z, w0, u0, rfl, Rp.mono (((g3.trans g4).trans g5).trans g6) r2, Rp.mono ((g4.trans g5).trans g6) r3, Rp.mono (g5.trans g6) r4, Rp.mono g6 r5, r6, hr⟩
theorem sr_o {m : Option A} {x : A} (h : EvO K te σ G H m) (hm : m = some x) (a : At G H L) (k : forall v G2 H2, Gx G G2 -> Gx H H2 -> At G2 H2 L -> rp K G2 v x -> X.rt v H2) : tSeq (tRet te) u X σ H := h x hm G H L Gx.rfl Gx.rfl a _ k
/-- a def of five, the third and the fourth lists that it changes -/
def PSd {A1 A2 C D A5 R : Type} [Rp A1] [Rp A2] [Rp C] [Rp D] [Rp A5] [Rp R] (K : Fg) (m : A1 -> A2 -> List C -> List D -> A5 -> Option (R × List C × List D)) : Sp := fun vs H Q _ =>
  exists (LL : Led) (G : Hp) (v1 v2 v5 : V) (p3 p4 : Addr) (ws3 ws4 : List V) (x1 : A1) (x2 : A2) (x3 : List C) (x4 : List D) (x5 : A5) (r : R × List C × List D), vs = [v1, v2, .ref p3, .ref p4, v5] ∧ At G H ((p4, .lst ws4) :: (p3, .lst ws3) :: LL) ∧ rp K G v1 x1 ∧ rp K G v2 x2 ∧ Al (rp K G) ws3 x3 ∧ Al (rp K G) ws4 x4 ∧ rp K G v5 x5 ∧ m x1 x2 x3 x4 x5 = some r ∧
    forall w G2 H2 us3 us4, Gx G G2 -> Gx (mns H [p3, p4]) H2 -> At G2 H2 ((p4, .lst us4) :: (p3, .lst us3) :: LL) -> rp K G2 w r.1 -> Al (rp K G2) us3 r.2.1 -> Al (rp K G2) us4 r.2.2 -> Q w H2
theorem st_callD {A1 A2 C D A5 R : Type} [Rp A1] [Rp A2] [Rp C] [Rp D] [Rp A5] [Rp R] {m : A1 -> A2 -> List C -> List D -> A5 -> Option (R × List C × List D)} {t1 t2 t5 : TE} {m1 : Option A1} {m2 : Option A2} {m5 : Option A5} {x1 : A1} {x2 : A2} {x3 : List C} {x4 : List D} {x5 : A5} {i3 i4 : Nat} {p3 p4 : Addr} {ws3 ws4 : List V} {r : R × List C × List D} {E : XK}
    (h1 : EvO K t1 σ G H m1) (e1 : m1 = some x1) (h2 : EvO K t2 σ G H m2) (e2 : m2 = some x2) (s3 : σ[i3]? = some (some (.ref p3))) (s4 : σ[i4]? = some (some (.ref p4))) (h5 : EvO K t5 σ G H m5) (e5 : m5 = some x5)
    (a : At G H ((p4, .lst ws4) :: (p3, .lst ws3) :: L)) (al3 : Al (rp K G) ws3 x3) (al4 : Al (rp K G) ws4 x4) (hm : m x1 x2 x3 x4 x5 = some r)
    (k : forall w G2 H2 us3 us4, Gx G G2 -> Gx (mns H [p3, p4]) H2 -> At G2 H2 ((p4, .lst us4) :: (p3, .lst us3) :: L) -> rp K G2 w r.1 -> Al (rp K G2) us3 r.2.1 -> Al (rp K G2) us4 r.2.2 -> u X (σ.set i (some w)) H2) :
    tSeq (tAsg (tCall (PSd K m) [] E (tCons t1 (tCons t2 (tCons (tVar i3) (tCons (tVar i4) (tCons t5 tNil)))))) (gName i)) u X σ H := by
  refine h1 x1 e1 G H _ Gx.rfl Gx.rfl a _ fun v1 G1 H1 g1 f1 a1 r1 => ?_
  refine h2 x2 e2 G1 H1 _ g1 f1 a1 _ fun v2 G2 H2 g2 f2 a2 r2 => ?_
  refine ⟨_, s3, _, s4, ?_⟩
  refine h5 x5 e5 G2 H2 _ (g1.trans g2) (f1.trans f2) a2 _ fun v5 G3 H3 g3 f3 a3 r5 => ?_
  have gg := (g1.trans g2).trans g3
  exact ⟨L, G3, v1, v2, v5, p3, p4, ws3, ws4, x1, x2, x3, x4, x5, r, rfl, a3, Rp.mono (g2.trans g3) r1, Rp.mono g3 r2, al3.mono fun _ _ => Rp.mono gg, al4.mono fun _ _ => Rp.mono gg, r5, hm,
    fun w G4 H4 us3 us4 g4 f4 a4 rw' b3 b4 => k w G4 H4 us3 us4 (gg.trans g4) ((mns_mono ((f1.trans f2).trans f3)).trans f4) a4 rw' b3 b4⟩
end
section
variable {X : Cx} {K : Fg} {tg e : Expr} {ta : TE}
theorem piL_K (h : X.K = K) (he : PE X e ta) : PI X tg e (iList K ta) := h ▸ pi_list he
theorem piT_K (h : X.K = K) (he : PE X e ta) : PI X tg e (iTup K ta) := h ▸ pi_tup he
end
end Pu

set_option Elab.async false
set_option linter.all false
set_option maxRecDepth 100000
namespace Pu
open Pu.Rp (rp)
open PySem PySem.Spec PyProof.Rows L2
theorem snoc {A : Type} : forall s : List A, s = [] ∨ exists t l, s = t ++ [l]
  | [] => .inl rfl
  | x :: s => .inr (match snoc s with
    | .inl h => ⟨[], x, by rw [h]; rfl⟩
    | .inr ⟨t, l, h⟩ => ⟨x :: t, l, by rw [h]; rfl⟩)
theorem ix_last {A : Type} (s : List A) (l : A) : ix (s ++ [l]) (-1) = some l := atI_last s l
theorem fPop_last {A : Type} (s : List A) (l : A) : fPop (s ++ [l]) = some (l, s) := by
  unfold fPop
  simp
theorem fSet_last {A : Type} (s : List A) (l y : A) : fSetL (s ++ [l]) (-1) y = some (s ++ [y]) := by
  have e : ixN (s ++ [l]).length (-1) = some s.length := by
    unfold ixN
    rw [if_neg (by decide), if_pos (by simp; omega)]
    congr 1
    simp
    omega
  unfold fSetL
  rw [e]
  simp
theorem ix_nat {A : Type} {s : List A} {i : Int} (h0 : 0 ≤ i) (h1 : i < s.length) : exists x, ix s i = some x ∧ x ∈ s ∧ s[i.toNat]? = some x := by
  have h : i.toNat < s.length := by omega
  refine ⟨s[i.toNat], ?_, List.getElem_mem h, List.getElem?_eq_getElem h⟩
  have := atI_nat (List.getElem?_eq_getElem h)
  rwa [show ((i.toNat : Nat) : Int) = i by omega] at this
theorem cutM_len {A : Type} (xs : List A) (lo hi : Option Int) : (cutM xs lo hi).length ≤ xs.length := by
  unfold cutM
  simp only [List.length_take, List.length_drop]
  omega
/-! sets of whole numbers by stretches -/
def inn (L : List (Int × Int)) (n : Int) : Prop := exists p, p ∈ L ∧ p.1 ≤ n ∧ n ≤ p.2
theorem inn_nil {n : Int} : ¬ inn [] n := fun ⟨p, h, _⟩ => nomatch h
theorem inn_cons {p : Int × Int} {L : List (Int × Int)} {n : Int} : inn (p :: L) n ↔ (p.1 ≤ n ∧ n ≤ p.2) ∨ inn L n :=
  ⟨fun ⟨q, h, a⟩ => by
    rcases List.mem_cons.mp h with rfl | h
    · exact .inl a
    · exact .inr ⟨q, h, a⟩, fun h => by
    rcases h with a | ⟨q, h, a⟩
    · exact ⟨p, List.mem_cons_self, a⟩
    · exact ⟨q, List.mem_cons_of_mem _ h, a⟩⟩
theorem inn_app {L M : List (Int × Int)} {n : Int} : inn (L ++ M) n ↔ inn L n ∨ inn M n :=
  ⟨fun ⟨q, h, a⟩ => by
    rcases List.mem_append.mp h with h | h
    · exact .inl ⟨q, h, a⟩
    · exact .inr ⟨q, h, a⟩, fun h => by
    rcases h with ⟨q, h, a⟩ | ⟨q, h, a⟩
    · exact ⟨q, List.mem_append_left _ h, a⟩
    · exact ⟨q, List.mem_append_right _ h, a⟩⟩
theorem inn_one {p : Int × Int} {n : Int} : inn [p] n ↔ p.1 ≤ n ∧ n ≤ p.2 := inn_cons.trans ⟨fun h => h.elim id fun h => (inn_nil h).elim, .inl⟩
theorem inn_of {L M : List (Int × Int)} (h : forall p, p ∈ L ↔ p ∈ M) {n : Int} : inn L n ↔ inn M n := ⟨fun ⟨p, a, b⟩ => ⟨p, (h p).mp a, b⟩, fun ⟨p, a, b⟩ => ⟨p, (h p).mpr a, b⟩⟩
def Nrm (L : List (Int × Int)) : Prop := (forall p, p ∈ L -> p.1 ≤ p.2) ∧ L.Pairwise (fun p q => p.2 + 1 < q.1)
theorem Nrm.nil : Nrm [] := ⟨fun _ h => (nomatch h), List.Pairwise.nil⟩
theorem Nrm.tail {p : Int × Int} {L : List (Int × Int)} (h : Nrm (p :: L)) : Nrm L := ⟨fun q z => h.1 q (List.mem_cons_of_mem _ z), (List.pairwise_cons.mp h.2).2⟩
theorem Nrm.snoc {L : List (Int × Int)} {p : Int × Int} (h : Nrm L) (hp : p.1 ≤ p.2) (g : forall q, q ∈ L -> q.2 + 1 < p.1) : Nrm (L ++ [p]) :=
  ⟨fun q z => by
    rcases List.mem_append.mp z with z | z
    · exact h.1 q z
    · rw [List.mem_singleton.mp z]; exact hp, List.pairwise_append.mpr ⟨h.2, List.pairwise_singleton _ _, fun a ha b hb => by rw [List.mem_singleton.mp hb]; exact g a ha⟩⟩
theorem Nrm.init {L M : List (Int × Int)} (h : Nrm (L ++ M)) : Nrm L := ⟨fun q z => h.1 q (List.mem_append_left _ z), (List.pairwise_append.mp h.2).1⟩
theorem Nrm.last {L : List (Int × Int)} {p : Int × Int} (h : Nrm (L ++ [p])) : p.1 ≤ p.2 ∧ forall q, q ∈ L -> q.2 + 1 < p.1 :=
  ⟨h.1 p (by simp), fun q hq => (List.pairwise_append.mp h.2).2.2 q hq p (by simp)⟩
theorem Nrm.behind {p : Int × Int} {L : List (Int × Int)} (h : Nrm (p :: L)) {n : Int} (hn : inn L n) : p.2 + 1 < n := by
  obtain ⟨q, a, b, c⟩ := hn
  have := (List.pairwise_cons.mp h.2).1 q a
  omega
theorem nm_uniq : forall {L M : List (Int × Int)}, Nrm L -> Nrm M -> (forall n, inn L n ↔ inn M n) -> L = M
  | [], [], _, _, _ => rfl
  | [], q :: M, _, h2, h => (inn_nil ((h q.1).mpr (inn_cons.mpr (.inl ⟨Int.le_refl _, h2.1 q List.mem_cons_self⟩)))).elim
  | p :: L, [], h1, _, h => (inn_nil ((h p.1).mp (inn_cons.mpr (.inl ⟨Int.le_refl _, h1.1 p List.mem_cons_self⟩)))).elim
  | p :: L, q :: M, h1, h2, h => by
    have hp := h1.1 p List.mem_cons_self
    have hq := h2.1 q List.mem_cons_self
    have low : p.1 = q.1 := by
      have a : q.1 ≤ p.1 := by
        rcases inn_cons.mp ((h p.1).mp (inn_cons.mpr (.inl ⟨Int.le_refl _, hp⟩))) with a | a
        · exact a.1
        · have := h2.behind a; omega
      have b : p.1 ≤ q.1 := by
        rcases inn_cons.mp ((h q.1).mpr (inn_cons.mpr (.inl ⟨Int.le_refl _, hq⟩))) with a | a
        · exact a.1
        · have := h1.behind a; omega
      omega
    have high : p.2 = q.2 := by
      rcases Int.lt_trichotomy p.2 q.2 with c | c | c
      · rcases inn_cons.mp ((h (p.2 + 1)).mpr (inn_cons.mpr (.inl ⟨by omega, by omega⟩))) with a | a
        · omega
        · have := h1.behind a; omega
      · exact c
      · rcases inn_cons.mp ((h (q.2 + 1)).mp (inn_cons.mpr (.inl ⟨by omega, by omega⟩))) with a | a
        · omega
        · have := h2.behind a; omega
    have e : p = q := Prod.ext low high
    subst e
    rw [nm_uniq h1.tail h2.tail fun n => ⟨fun a => by
      rcases inn_cons.mp ((h n).mp (inn_cons.mpr (.inr a))) with b | b
      · have := h1.behind a; omega
      · exact b, fun a => by
      rcases inn_cons.mp ((h n).mpr (inn_cons.mpr (.inr a))) with b | b
      · have := h2.behind a; omega
      · exact b⟩]
theorem psort_mem {x : List (Int × Int)} (p : Int × Int) : p ∈ psort x ↔ p ∈ x := (psort_perm x).mem_iff
theorem psort_low (x : List (Int × Int)) : (psort x).Pairwise fun p q => p.1 ≤ q.1 := (psort_le x).imp fun h => by rw [ple_iff] at h; omega
theorem psort_len (x : List (Int × Int)) : (psort x).length = x.length := (psort_perm x).length_eq
theorem isort_mem {x : List Int} (p : Int) : p ∈ isort x ↔ p ∈ x := (isort_perm x).mem_iff
theorem isort_len (x : List Int) : (isort x).length = x.length := (isort_perm x).length_eq
/-- no two alike: they rise strictly -/
theorem isort_lt {x : List Int} (h : x.Nodup) : (isort x).Pairwise (· < ·) := by
  have a := isort_le x
  have b : (isort x).Nodup := (isort_perm x).nodup_iff.mpr h
  exact (List.Pairwise.and a b).imp fun ⟨p, q⟩ => by omega
/-! fields of numbers -/
theorem comp_all {I A : Type} {c : I -> Option Bool} {f : I -> Option A} {g : I -> A} : forall {xs : List I}, (forall x, x ∈ xs -> c x = some true) -> (forall x, x ∈ xs -> f x = some (g x)) -> comp c f xs = some (xs.map g)
  | [], _, _ => rfl
  | x :: xs, hc, h => by
    unfold comp
    rw [hc x List.mem_cons_self, h x List.mem_cons_self, comp_all (fun y hy => hc y (List.mem_cons_of_mem _ hy)) fun y hy => h y (List.mem_cons_of_mem _ hy)]
    rfl
theorem comp_ex {I A : Type} {f : I -> Option A} {P : A -> Prop} : forall {xs : List I}, (forall x, x ∈ xs -> exists y, f x = some y ∧ P y) -> exists r, comp (fun _ => some true) f xs = some r ∧ r.length = xs.length ∧ forall y, y ∈ r -> P y
  | [], _ => ⟨[], rfl, rfl, fun _ h => nomatch h⟩
  | x :: xs, h => by
    obtain ⟨y, e, p⟩ := h x List.mem_cons_self
    obtain ⟨r, e2, l, p2⟩ := comp_ex (xs := xs) fun z hz => h z (List.mem_cons_of_mem _ hz)
    refine ⟨y :: r, by simp [comp, e, e2], by simp [l], fun z hz => ?_⟩
    rcases List.mem_cons.mp hz with rfl | hz
    · exact p
    · exact p2 z hz
theorem comp_filter {I : Type} {c : I -> Bool} : forall {xs : List I}, comp (fun x => some (c x)) (fun x => some x) xs = some (xs.filter c)
  | [] => rfl
  | x :: xs => by
    unfold comp
    rw [comp_filter (xs := xs)]
    cases h : c x <;> simp [h]
theorem fMul_1 {i j : Int} (h : -18446744073709551616 < i ∧ i < 18446744073709551616 ∨ -18446744073709551616 < j ∧ j < 18446744073709551616) : fMul i j = some (i * j) := by
  unfold fMul mulOk
  rw [if_pos]
  rw [Bool.or_eq_true, Bool.and_eq_true, Bool.and_eq_true]
  simpa using h
theorem fMod_1 {i j : Int} (h : 0 < j) : fMod i j = some (i % j) := if_pos h
theorem fDiv_1 {i j : Int} (h : 0 < j ∧ j < 1073741824) : fDiv i j = some (i / j) := if_pos h
theorem fPow_1 {i : Int} {n : Nat} (h : n ≤ 1000000 ∧ i.natAbs < 18446744073709551616) : fPow i (n : Int) = some (i ^ n) := by
  unfold fPow powOk
  rw [if_pos]
  · rfl
  · simp; omega
theorem imin_le {i j : Int} : imin i j ≤ i ∧ imin i j ≤ j ∧ (imin i j = i ∨ imin i j = j) := by unfold imin; split <;> omega
theorem imax_le {i j : Int} : i ≤ imax i j ∧ j ≤ imax i j ∧ (imax i j = i ∨ imax i j = j) := by unfold imax; split <;> omega
end Pu

set_option Elab.async false
set_option linter.all false
set_option maxRecDepth 100000
namespace Pu
open Pu.Rp (rp)
open PySem PySem.Spec PyProof.Rows L2
def evs {A : Type} : List A -> List A
  | a :: _ :: r => a :: evs r
  | l => l
def ods {A : Type} : List A -> List A
  | _ :: b :: r => b :: ods r
  | _ => []
theorem pick_evs {A : Type} : forall xs : List A, ((List.range ((xs.length + 1) / 2)).map fun k => 2 * k).filterMap (xs[·]?) = evs xs
  | [] => by simp [evs]
  | [a] => by simp [evs, List.range_succ]
  | a :: b :: r => by
    have ih := pick_evs r
    have e : ((a :: b :: r).length + 1) / 2 = (r.length + 1) / 2 + 1 := by simp only [List.length_cons]; omega
    rw [e, List.range_succ_eq_map, List.map_cons, List.map_map, List.filterMap_cons_some (f := fun x => (a :: b :: r)[x]?) (b := a) rfl]
    unfold evs
    rw [← ih, List.filterMap_map, List.filterMap_map]
    congr 1
theorem pick_ods {A : Type} : forall xs : List A, ((List.range (xs.length / 2)).map fun k => 1 + 2 * k).filterMap (xs[·]?) = ods xs
  | [] => by simp [ods]
  | [a] => by simp [ods]
  | a :: b :: r => by
    have ih := pick_ods r
    have e : (a :: b :: r).length / 2 = r.length / 2 + 1 := by simp only [List.length_cons]; omega
    rw [e, List.range_succ_eq_map, List.map_cons, List.map_map, List.filterMap_cons_some (f := fun x => (a :: b :: r)[x]?) (b := b) rfl]
    unfold ods
    rw [← ih, List.filterMap_map, List.filterMap_map]
    congr 1
theorem stepM_evs {A : Type} (xs : List A) : stepM xs none none 2 = evs xs := by
  rw [← pick_evs]
  unfold stepM sliceBounds sliceRange
  simp only [Option.getD_some, Int.cast_ofNat_Int, gt_iff_lt, Int.reduceLT, if_true]
  congr 1
  by_cases h : xs.length = 0
  · simp [h]
  · rw [if_pos (by omega)]
    rw [show (((xs.length : Int) - 0 + 2 - 1) / 2).toNat = (xs.length + 1) / 2 by omega]
    congr 1
    funext k
    omega
theorem stepM_ods {A : Type} (xs : List A) : stepM xs (some 1) none 2 = ods xs := by
  rw [← pick_ods]
  unfold stepM sliceBounds sliceRange
  simp only [Option.getD_some, Int.cast_ofNat_Int, gt_iff_lt, Int.reduceLT, if_true, if_false]
  congr 1
  by_cases h : xs.length ≤ 1
  · rw [if_neg (by omega), show xs.length / 2 = 0 by omega]
    rfl
  · rw [if_pos (by omega)]
    rw [show ((xs.length : Int) - max 0 (min 1 (xs.length : Int)) + 2 - 1) / 2 = ((xs.length / 2 : Nat) : Int) by omega]
    congr 1
    funext k
    omega
/-! sorted(set(..)) -/
theorem sins_mem {x c : Int} : forall {l : List Int}, c ∈ sins x l ↔ c = x ∨ c ∈ l
  | [] => by simp [sins]
  | y :: r => by
    unfold sins
    split
    · simp
    · split
      · rename_i h; subst h; simp
      · rw [List.mem_cons, sins_mem (l := r), List.mem_cons]
        exact ⟨fun h => h.elim (fun h => .inr (.inl h)) fun h => h.elim .inl fun h => .inr (.inr h), fun h => h.elim (fun h => .inr (.inl h)) fun h => h.elim .inl fun h => .inr (.inr h)⟩
theorem sins_lt {x : Int} : forall {l : List Int}, l.Pairwise (· < ·) -> (sins x l).Pairwise (· < ·)
  | [], _ => by simp [sins]
  | y :: r, h => by
    obtain ⟨h1, h2⟩ := List.pairwise_cons.mp h
    unfold sins
    split
    · rename_i c
      exact List.pairwise_cons.mpr ⟨fun z hz => by
        rcases List.mem_cons.mp hz with rfl | hz
        · exact c
        · have := h1 z hz; omega, h⟩
    · split
      · exact h
      · exact List.pairwise_cons.mpr ⟨fun z hz => by
          rcases sins_mem.mp hz with rfl | hz
          · omega
          · exact h1 z hz, sins_lt h2⟩
theorem sins_len {x : Int} : forall {l : List Int}, (sins x l).length ≤ l.length + 1
  | [] => by simp [sins]
  | y :: r => by
    have := @sins_len x r
    unfold sins
    split
    · simp
    · split
      · simp
      · simp only [List.length_cons]; omega
theorem sset_ok : forall x : List Int, (sset x).Pairwise (· < ·) ∧ (forall c, c ∈ sset x ↔ c ∈ x) ∧ (sset x).length ≤ x.length
  | [] => ⟨List.Pairwise.nil, fun _ => Iff.rfl, Nat.le_refl _⟩
  | a :: x => by
    obtain ⟨h1, h2, h3⟩ := sset_ok x
    refine ⟨sins_lt h1, fun c => ?_, Nat.le_trans sins_len (by simp only [List.length_cons]; unfold sset at h3; omega)⟩
    show c ∈ sins a (sset x) ↔ _
    rw [sins_mem, h2, List.mem_cons]
end Pu

set_option Elab.async false
set_option linter.all false
set_option maxRecDepth 100000
namespace Pu
open Pu.Rp (rp)
open PySem PySem.Spec PyProof.Rows L2
/-! things of any kind -/
inductive Dy where
  | non : Dy
  | bl : Bool -> Dy
  | int : Int -> Dy
  | str : Str -> Dy
  | dct : Dy
  | tup : List Dy -> Dy
  | lst : List Dy -> Dy
mutual
def rpY (K : Fg) (H : Hp) : Dy -> V -> Prop
  | .non, v => v = .non
  | .bl b, v => v = .bl b
  | .int i, v => v = .int i
  | .str s, v => v = .str s
  | .dct, v => exists a, v = .ref a ∧ H a = some (.dK [])
  | .tup xs, v => exists a vs, v = .ref a ∧ H a = some (.tup vs) ∧ rpYs K H xs vs
  | .lst xs, v => exists a vs, v = .ref a ∧ H a = some (.lst vs) ∧ rpYs K H xs vs
def rpYs (K : Fg) (H : Hp) : List Dy -> List V -> Prop
  | [], vs => vs = []
  | x :: xs, vs => exists v ws, vs = v :: ws ∧ rpY K H x v ∧ rpYs K H xs ws
end
mutual
theorem rpY_mono {K : Fg} {H H' : Hp} (e : Gx H H') : forall (x : Dy) (v : V), rpY K H x v -> rpY K H' x v
  | .non, v, h => by rw [rpY] at h ⊢; exact h
  | .bl b, v, h => by rw [rpY] at h ⊢; exact h
  | .int i, v, h => by rw [rpY] at h ⊢; exact h
  | .str s, v, h => by rw [rpY] at h ⊢; exact h
  | .dct, v, h => by
    rw [rpY] at h ⊢
    obtain ⟨a, h1, h2⟩ := h
    exact ⟨a, h1, e _ _ h2⟩
  | .tup xs, v, h => by
    rw [rpY] at h ⊢
    obtain ⟨a, vs, h1, h2, h3⟩ := h
    exact ⟨a, vs, h1, e _ _ h2, rpYs_mono e xs vs h3⟩
  | .lst xs, v, h => by
    rw [rpY] at h ⊢
    obtain ⟨a, vs, h1, h2, h3⟩ := h
    exact ⟨a, vs, h1, e _ _ h2, rpYs_mono e xs vs h3⟩
theorem rpYs_mono {K : Fg} {H H' : Hp} (e : Gx H H') : forall (xs : List Dy) (vs : List V), rpYs K H xs vs -> rpYs K H' xs vs
  | [], vs, h => by rw [rpYs] at h ⊢; exact h
  | x :: xs, vs, h => by
    rw [rpYs] at h ⊢
    obtain ⟨v, ws, h1, h2, h3⟩ := h
    exact ⟨v, ws, h1, rpY_mono e x v h2, rpYs_mono e xs ws h3⟩
end
instance : Rp Dy := ⟨fun K H v x => rpY K H x v, fun e h => rpY_mono e _ _ h⟩
theorem rpYs_al {K : Fg} {H : Hp} : forall {xs : List Dy} {vs : List V}, rpYs K H xs vs -> Al (rp K H) vs xs
  | [], vs, h => by rw [rpYs] at h; subst h; trivial
  | x :: xs, vs, h => by
    rw [rpYs] at h
    obtain ⟨v, ws, rfl, h2, h3⟩ := h
    exact ⟨h2, rpYs_al h3⟩
theorem al_rpYs {K : Fg} {H : Hp} : forall {xs : List Dy} {vs : List V}, Al (rp K H) vs xs -> rpYs K H xs vs
  | [], [], _ => by rw [rpYs]
  | x :: xs, v :: vs, h => by
    rw [rpYs]
    exact ⟨v, vs, rfl, h.1, al_rpYs h.2⟩
  | [], _ :: _, h => h.elim
  | _ :: _, [], h => h.elim
/-- what stands for a thing of a known kind stands for the same as a thing of any kind -/
class ToY (A : Type) [Rp A] where
  to : A -> Dy
  ok : forall {K : Fg} {H : Hp} {v : V} {x : A}, rp K H v x -> rp K H v (to x)
instance : ToY Dy := ⟨id, fun h => h⟩
instance : ToY Int := ⟨.int, fun {K H v x} h => by show rpY K H (.int x) v; rw [rpY]; exact h⟩
instance : ToY Bool := ⟨.bl, fun {K H v x} h => by show rpY K H (.bl x) v; rw [rpY]; exact h⟩
instance : ToY Str := ⟨.str, fun {K H v x} h => by show rpY K H (.str x) v; rw [rpY]; exact h⟩
instance : ToY Unit := ⟨fun _ => .non, fun {K H v x} h => by show rpY K H .non v; rw [rpY]; exact h⟩
theorem al_toY {A : Type} [Rp A] [ToY A] {K : Fg} {H : Hp} : forall {vs : List V} {xs : List A}, Al (rp K H) vs xs -> Al (rp K H) vs (xs.map ToY.to)
  | [], [], _ => trivial
  | v :: vs, x :: xs, h => ⟨ToY.ok h.1, al_toY h.2⟩
  | [], _ :: _, h => h.elim
  | _ :: _, [], h => h.elim
instance {A B : Type} [Rp A] [Rp B] [ToY A] [ToY B] : ToY (A × B) := ⟨fun x => .tup [ToY.to x.1, ToY.to x.2], fun {K H v x} h => by
  obtain ⟨a, u, w, h1, h2, h3, h4⟩ := h
  show rpY K H (.tup _) v
  rw [rpY]
  exact ⟨a, [u, w], h1, h2, al_rpYs ⟨ToY.ok h3, ToY.ok h4, trivial⟩⟩⟩
instance {A : Type} [Rp A] [ToY A] : ToY (Tl A) := ⟨fun x => .tup (x.l.map ToY.to), fun {K H v x} h => by
  obtain ⟨a, vs, h1, h2, h3⟩ := h
  show rpY K H (.tup _) v
  rw [rpY]
  exact ⟨a, vs, h1, h2, al_rpYs (al_toY h3)⟩⟩
instance {A : Type} [Rp A] [ToY A] : ToY (List A) := ⟨fun x => .lst (x.map ToY.to), fun {K H v x} h => by
  obtain ⟨a, vs, h1, h2, h3⟩ := h
  show rpY K H (.lst _) v
  rw [rpY]
  exact ⟨a, vs, h1, h2, al_rpYs (al_toY h3)⟩⟩
section
variable {K : Fg} {A : Type} [Rp A] [ToY A] {σ : L2.St} {H : Hp} {te : TE}
theorem x_toY {m : Option A} (h : EvB K te σ H m) : EvB (A := Dy) K te σ H (m.map ToY.to) := fun x hx H1 e Q q => by
  obtain ⟨a, ha, rfl⟩ := Option.map_eq_some_iff.mp hx
  exact h a ha H1 e Q fun v H2 g r => q v H2 g (ToY.ok r)
end
end Pu

set_option Elab.async false
set_option linter.all false
set_option maxRecDepth 100000
namespace Pu
open Pu.Rp (rp)
open PySem PySem.Spec PyProof.Rows L2
def nmY : Dy -> String
  | .non => "NoneType"
  | .bl _ => "bool"
  | .int _ => "int"
  | .str _ => "str"
  | .dct => "dict"
  | .tup _ => "tuple"
  | .lst _ => "list"
theorem tyY {K : Fg} {H : Hp} {v : V} {d : Dy} (h : rp K H v d) : TyX K H v (.type (nmY d)) := by
  have h' : rpY K H d v := h
  cases d with
  | non => rw [rpY] at h'; subst h'; exact .base .non
  | bl b => rw [rpY] at h'; subst h'; exact .base (.bl _)
  | int i => rw [rpY] at h'; subst h'; exact .base (.int _)
  | str s => rw [rpY] at h'; subst h'; exact .base (.str _)
  | dct => rw [rpY] at h'; obtain ⟨a, rfl, h2⟩ := h'; exact .base (.dK h2)
  | tup xs => rw [rpY] at h'; obtain ⟨a, vs, rfl, h2, _⟩ := h'; exact .base (.tup h2)
  | lst xs => rw [rpY] at h'; obtain ⟨a, vs, rfl, h2, _⟩ := h'; exact .base (.lst h2)
def isN (n m : String) : Bool := m == n || (m == "bool" && n == "int")
def isY (n : String) (d : Dy) : Bool := isN n (nmY d)
theorem kitY_int {K : Fg} (d : Dy) : PySem.W.kitOne K (.type (nmY d)) (.type "int") = some (isY "int" d) := by cases d <;> (simp only [isY, nmY]; exact L2.kit_ty (by decide +kernel))
theorem kitY_bool {K : Fg} (d : Dy) : PySem.W.kitOne K (.type (nmY d)) (.type "bool") = some (isY "bool" d) := by cases d <;> (simp only [isY, nmY]; exact L2.kit_ty (by decide +kernel))
theorem kitY_str {K : Fg} (d : Dy) : PySem.W.kitOne K (.type (nmY d)) (.type "str") = some (isY "str" d) := by cases d <;> (simp only [isY, nmY]; exact L2.kit_ty (by decide +kernel))
theorem kitY_list {K : Fg} (d : Dy) : PySem.W.kitOne K (.type (nmY d)) (.type "list") = some (isY "list" d) := by cases d <;> (simp only [isY, nmY]; exact L2.kit_ty (by decide +kernel))
theorem kitY_tuple {K : Fg} (d : Dy) : PySem.W.kitOne K (.type (nmY d)) (.type "tuple") = some (isY "tuple" d) := by cases d <;> (simp only [isY, nmY]; exact L2.kit_ty (by decide +kernel))
theorem kitY_dict {K : Fg} (d : Dy) : PySem.W.kitOne K (.type (nmY d)) (.type "dict") = some (isY "dict" d) := by cases d <;> (simp only [isY, nmY]; exact L2.kit_ty (by decide +kernel))
section
variable {K : Fg} {A B : Type} [Rp A] [Rp B] {σ : L2.St} {H : Hp} {ta te : TE}
def fIsY (n : String) (d : Dy) : Option Bool := some (isY n d)
theorem x_isiY {n : String} {ma : Option Dy} (h : forall d, PySem.W.kitOne K (.type (nmY d)) (.type n) = some (isY n d)) (ha : EvB K ta σ H ma) : EvB K (tCB (rIsi K) (tCons ta (tCons (tC (.ty n)) tNil))) σ H (o1 (fIsY n) ma) := fun x hx H1 e Q q => by
  obtain ⟨a, e1, e3⟩ := o1s hx
  cases e3
  exact ha a e1 H1 e _ fun v H2 g2 r2 => ⟨v, .ty n, _, _, _, rfl, .ty n, tyY r2, h a, q _ H2 g2 rfl⟩
/-! a thing of any kind, where its kind is known -/
def yInt : Dy -> Option Int
  | .int i => some i
  | _ => none
def yBl : Dy -> Option Bool
  | .bl b => some b
  | _ => none
def yStr : Dy -> Option Str
  | .str s => some s
  | _ => none
def yPair : Dy -> Option (Dy × Dy)
  | .tup [a, b] => some (a, b)
  | _ => none
def yTl : Dy -> Option (Tl Dy)
  | .tup xs => some ⟨xs⟩
  | _ => none
def yLst : Dy -> Option (List Dy)
  | .lst xs => some xs
  | _ => none
/-- a cast that changes nothing but what is told of the value -/
theorem x_cast {f : A -> Option B} (hf : forall {K : Fg} {H : Hp} {v : V} {a : A} {b : B}, f a = some b -> rp K H v a -> rp K H v b) {m : Option A} (h : EvB K te σ H m) : EvB K te σ H (o1 f m) := fun x hx H1 e Q q => by
  obtain ⟨a, e1, e2⟩ := o1s hx
  exact h a e1 H1 e Q fun v H2 g r => q v H2 g (hf e2 r)
theorem y_int {K : Fg} {H : Hp} {v : V} {a : Dy} {b : Int} (h : yInt a = some b) (r : rp K H v a) : rp K H v b := by
  cases a <;> cases h
  have r' : rpY K H _ v := r
  rw [rpY] at r'
  exact r'
theorem y_bl {K : Fg} {H : Hp} {v : V} {a : Dy} {b : Bool} (h : yBl a = some b) (r : rp K H v a) : rp K H v b := by
  cases a <;> cases h
  have r' : rpY K H _ v := r
  rw [rpY] at r'
  exact r'
theorem y_str {K : Fg} {H : Hp} {v : V} {a : Dy} {b : Str} (h : yStr a = some b) (r : rp K H v a) : rp K H v b := by
  cases a <;> cases h
  have r' : rpY K H _ v := r
  rw [rpY] at r'
  exact r'
theorem y_tl {K : Fg} {H : Hp} {v : V} {a : Dy} {b : Tl Dy} (h : yTl a = some b) (r : rp K H v a) : rp K H v b := by
  cases a <;> cases h
  have r' : rpY K H (.tup _) v := r
  rw [rpY] at r'
  obtain ⟨p, vs, h1, h2, h3⟩ := r'
  exact ⟨p, vs, h1, h2, rpYs_al h3⟩
theorem y_lst {K : Fg} {H : Hp} {v : V} {a : Dy} {b : List Dy} (h : yLst a = some b) (r : rp K H v a) : rp K H v b := by
  cases a <;> cases h
  have r' : rpY K H (.lst _) v := r
  rw [rpY] at r'
  obtain ⟨p, vs, h1, h2, h3⟩ := r'
  exact ⟨p, vs, h1, h2, rpYs_al h3⟩
theorem y_pair {K : Fg} {H : Hp} {v : V} {a : Dy} {b : Dy × Dy} (h : yPair a = some b) (r : rp K H v a) : rp K H v b := by
  unfold yPair at h
  split at h
  · cases h
    have r' : rpY K H (.tup _) v := r
    rw [rpY] at r'
    obtain ⟨p, vs, h1, h2, h3⟩ := r'
    have q := rpYs_al h3
    match vs, q with
    | [u, w], q => exact ⟨p, u, w, h1, h2, q.1, q.2.1⟩
  · cases h
/-- as many casts as there are items -/
def mapO {A B : Type} (f : A -> Option B) : List A -> Option (List B)
  | [] => some []
  | x :: xs => (f x).bind fun y => (mapO f xs).bind fun ys => some (y :: ys)
theorem al_mapO {f : A -> Option B} (hf : forall {K : Fg} {H : Hp} {v : V} {a : A} {b : B}, f a = some b -> rp K H v a -> rp K H v b) {K : Fg} {H : Hp} : forall {vs : List V} {xs : List A} {ys : List B}, mapO f xs = some ys -> Al (rp K H) vs xs -> Al (rp K H) vs ys
  | [], [], ys, h, _ => by cases h; trivial
  | v :: vs, x :: xs, ys, h, r => by
    unfold mapO at h
    obtain ⟨y, e1, h⟩ := bnd h
    obtain ⟨zs, e2, h⟩ := bnd h
    cases h
    exact ⟨hf e1 r.1, al_mapO hf e2 r.2⟩
  | [], _ :: _, _, _, r => r.elim
  | _ :: _, [], _, _, r => r.elim
def yLenT (d : Dy) : Option Int := match d with
  | .tup xs => some xs.length
  | .lst xs => some xs.length
  | _ => none
end
end Pu

set_option Elab.async false
set_option linter.all false
set_option maxRecDepth 100000
namespace Pu
open Pu.Rp (rp)
open PySem PySem.Spec PyProof.Rows L2
/-! a caught error that is kept -/
/-- an error of the class cls at a -/
def ExV (cls : Value) (d : Option Addr) (a : Addr) : HO := .ext fun h => exists (oe : Obj) (vs : Array Value), h.get? a = some oe ∧ Zc cls d oe ∧ oe.data = .fields vs
theorem exV_ok {P : Program} {w : World} {H : Hp} {h : Heap} {a : Addr} {cls : Value} {d : Option Addr} {oe : Obj} {vs : Array Value} (e : h.get? a = some oe) (z : Zc cls d oe) (dd : oe.data = .fields vs) : ObjOk P w H h a (ExV cls d a) :=
  ⟨⟨oe, vs, e, z, dd⟩, ⟨oe, e⟩, fun _ _ ⟨o, v, q, r⟩ k => ⟨o, v, k o q, r⟩⟩
theorem Inv.track {X : Cx} {pins : List (Addr × Obj)} {σ : L2.St} {H : Hp} {s : Shared} {a : Addr} {oe : Obj} {cls : Value} {d : Option Addr} {vs : Array Value} (I : Inv X ((a, oe) :: pins) σ H s) (h0 : X.s_0.heap.get? a = none)
    (hp : forall p, p ∈ X.pn ++ pins -> p.1 ≠ a) (z : Zc cls d oe) (hd : oe.data = .fields vs) : Inv X pins σ (upd H a (ExV cls d a)) s := by
  obtain ⟨e, hn, nl, nf, nc⟩ := I.pin (a, oe) (by simp)
  have cn : forall x c, X.env.cells.lookup x = some c -> c ≠ a := fun x c ec q => by
    obtain ⟨v, o, ho, hv⟩ := I.cell x c ec
    rw [q] at ho
    have ho' : s.heap.get? a = some oe := e
    rw [ho'] at ho
    cases ho
    exact nc v hv
  refine ⟨I.ok, I.os, I.bare, ⟨fun b o h1 h2 h3 h4 => I.base.keep b o h1 h2 h3 h4, fun b o h1 h2 h3 h4 => I.base.slot b o h1 h2 h3 h4, fun b o h1 h2 h3 => ?_, fun b o h1 h2 => I.base.there b o h1 h2, fun b xs h1 => ?_, fun b o u h1 => ?_, fun b ps h1 => ?_⟩, I.loc, I.cell, ?_, fun x c ec => ?_, fun p hq => ?_, fun b u eb => ?_, I.len⟩
  · rw [upd_ne (fun q => by rw [q, h0] at h1; cases h1)]
    exact I.base.free b o h1 h2 h3
  · have := I.base.tups b xs h1
    rw [upd_ne (ne_of_none this hn)]; exact this
  · have := I.base.frzs b o u h1
    rw [upd_ne (ne_of_none this hn)]; exact this
  · obtain ⟨m, q⟩ := I.base.tbls b ps h1
    exact ⟨m, by rw [upd_ne (ne_of_none q hn)]; exact q⟩
  · rw [upd_ne (Ne.symm nl)]; exact I.free
  · rw [upd_ne (cn x c ec)]; exact I.freeC x c ec
  · obtain ⟨h1, h2, h3⟩ := I.pin p (by
      rcases List.mem_append.mp hq with h | h
      · exact List.mem_append_left _ h
      · exact List.mem_append_right _ (List.mem_cons_of_mem _ h))
    exact ⟨h1, by rw [upd_ne (hp p hq)]; exact h2, h3⟩
  · by_cases hb : b = a
    · subst hb
      rw [upd_same] at eb
      cases eb
      exact exV_ok e z hd
    · rw [upd_ne hb] at eb
      exact (I.hok b u eb).stay (fun c v _ q => q) (fun c q => by rw [upd_ne (ne_of_none q hn)]; exact q) fun c xs q => by rw [upd_ne (ne_of_none q hn)]; exact q
/-- the suite's ends: the error is tracked from then on, its name gone -/
def endV (i : Nat) (cls : Value) (d : Option Addr) (a : Addr) (D : Ends) : Ends where
  nx σ' H' := D.nx (σ'.set i none) (upd H' a (ExV cls d a))
  rt v H' := D.rt v (upd H' a (ExV cls d a))
  bk σ' H' := D.bk (σ'.set i none) (upd H' a (ExV cls d a))
  ct σ' H' := D.ct (σ'.set i none) (upd H' a (ExV cls d a))
/-- what 'except x as n' wishes of what the body lets out: it is one of c's -/
def wAsV (K : Fg) (c : Value) (i : Nat) (ts : Addr -> Value -> Option Addr -> TS) (D : Ends) : WX := fun cls d σ H =>
  PySem.W.exmOne K cls c = some true ∧ forall a, H a = none -> ts a cls d (endV i cls d a D) (σ.set i (some (.ref a))) H
section
variable {X : Cx} {n : Str} {c : Value} {i : Nat} {pins : List (Addr × Obj)} {σ : L2.St} {H : Hp} {s : Shared} {D : Ends}
/-- where the suite has come to its end -/
theorem suite_gone {a : Addr} {oe : Obj} {cls : Value} {d : Option Addr} {vs : Array Value} {pos' : Pos} (ok : X.Ok) (hN : X.N.Nodup) (hi : X.N[i]? = some n) (hln : X.env.kindOf n = some .local) (hz : Zc cls d oe) (hd : oe.data = .fields vs)
    (h0 : X.s_0.heap.get? a = none) (hp : forall p, p ∈ X.pn ++ pins -> p.1 ≠ a) (S : Inv (X.suite a ((a, oe) :: (X.pn ++ pins))) [] σ H s) {R : Shared -> Prop} (k : forall s7, Inv X pins (σ.set i none) (upd H a (ExV cls d a)) s7 -> R s7) :
    wpAny (model X.prog X.w) X.A (do bindName X.env n .none; unbindBehindTheSuite X.env n pos') (fun _ s7 => R s7) X.xe s := by
  have J : Inv X ((a, oe) :: pins) σ H s :=
    { ok := ok, os := S.os, bare := S.bare, base := S.base, loc := S.loc, cell := S.cell, free := S.free, freeC := S.freeC, hok := S.hok, len := S.len
      pin := fun p hq => S.pin p (by
        have : p ∈ (a, oe) :: (X.pn ++ pins) := by
          rcases List.mem_append.mp hq with h | h
          · exact List.mem_cons_of_mem _ (List.mem_append_left _ h)
          · rcases List.mem_cons.mp h with h | h
            · rw [h]; exact List.mem_cons_self
            · exact List.mem_cons_of_mem _ (List.mem_append_right _ h)
        exact List.mem_append_left _ this) }
  exact gone_ok J hN hi hln fun s7 J7 => k s7 (Inv.track J7 h0 hp hz hd)

/-- the body has let out u: what is known where the clauses are looked at -/
structure Caught (X : Cx) (pins : List (Addr × Obj)) (W : WX) (u : Value) (s : Shared) where
  a : Addr
  G : Heap
  sI : Shared
  σ : L2.St
  H : Hp
  cls : Value
  d : Option Addr
  eu : u = .ref a
  J : Inv X pins σ H sI
  nb : forall b o, sI.heap.get? b = some o -> b ∉ frs X.stack -> G.get? b = some o
  up : sI.heap.UpToSlots s.heap
  sky : Sky G X.stack a (Zc cls d) X.env.locals s.heap
  na : H a = none
  os : s.os = sI.os
  ag : AllBare s.gens
  w : W cls d σ H
theorem caught_of {W : WX} {u : Value} {s : Shared} (ok : X.Ok) {xe : Value -> Shared -> Prop} (x : XE (X.tr (X.pn ++ pins) xe) W u s) : Nonempty (Caught X pins W u s) := by
  obtain ⟨a, G, sI, p', σ, H, cls, d, e1, J, nb, up, sky, na, os, ag, w⟩ := x
  exact ⟨⟨a, G, sI, σ, H, cls, d, e1, J.ofTry ok, nb, up, sky, na, os, ag, w⟩⟩
theorem Caught.notSI {W : WX} {u : Value} {s : Shared} (z : Caught X pins W u s) (hG : z.G.get? z.a = none) (hfr : z.a ∉ frs X.stack) : z.sI.heap.get? z.a = none := by
  cases e : z.sI.heap.get? z.a with
  | none => rfl
  | some o => have := z.nb _ _ e hfr; rw [hG] at this; cases this
theorem Caught.not0 {W : WX} {u : Value} {s : Shared} (z : Caught X pins W u s) (hx : X.ex = []) (h : z.sI.heap.get? z.a = none) : X.s_0.heap.get? z.a = none := by
  cases e : X.s_0.heap.get? z.a with
  | none => rfl
  | some o =>
    obtain ⟨o', q⟩ := z.J.base.there _ o e (by rw [hx]; exact List.not_mem_nil)
    rw [h] at q; cases q
theorem Caught.notP {W : WX} {u : Value} {s : Shared} (z : Caught X pins W u s) (h : z.sI.heap.get? z.a = none) : forall p, p ∈ X.pn ++ pins -> p.1 ≠ z.a := fun p hp q => by
  have := (z.J.pin p hp).1
  rw [q, h] at this; cases this
section
variable {x : Str} {body suite : List Stmt} {b₀ : Stmt} {np pos pos' : Pos} {tb : WX → TS} {ts : Addr → Value → Option Addr → TS}
theorem ps_try_asV (hs : X.stack = X.env :: X.outer) (hf : X.env.frame = some X.env.locals) (hex : X.ex = []) (hN : X.N.Nodup) (hi : X.N[i]? = some n) (hln : X.env.kindOf n = some .local) (hc : Names X x c)
    (hb : forall (W : WX) (pn : List (Addr × Obj)) (xe : Value → Shared → Prop), Takes (X.tr pn xe) W → PassesOwn (model X.prog X.w) X.A X.env xe → PSs (X.tr pn xe) body (tb W))
    (hsu : forall (a : Addr) (oe : Obj) (cls : Value) (d : Option Addr) (pn : List (Addr × Obj)), Zc cls d oe → (∃ vs, oe.data = .fields vs) → PSs (X.suite a ((a, oe) :: pn)) (b₀ :: suite) (ts a cls d)) :
    PS X (.Try body [.ExceptHandler (some (.Name x np)) (some n) (b₀ :: suite) pos'] [] [] pos) (fun D σ H => tb (wAsV X.K c i ts D) D σ H) := by
  constructor
  intro pins s σ H D I h
  have ok := I.ok
  refine wpAny_Try_except ?_
  refine wpAny_mono ((hb (wAsV X.K c i ts D) (X.pn ++ pins) (fun e z1 => wpAny (model X.prog X.w) X.A (noteFrame e X.env) (fun _ z2 => wpAny (model X.prog X.w) X.A (setFlight e none)
    (fun _ z3 => wpAny (model X.prog X.w) X.A (handleBy e X.env [.ExceptHandler (some (.Name x np)) (some n) (b₀ :: suite) pos']) (SP X pins D) X.xe z3) X.xe z2) X.xe z1) ?_ PassesOwn.looking).run [] s σ H D (I.toTry _) h) ?_ (fun _ _ z => z)
  · intro u s' xx
    obtain ⟨z⟩ := caught_of ok xx
    rw [z.eu]
    obtain ⟨hyes, go⟩ := z.w
    have frm : X.A.frames = some (X.env :: X.outer) := ok.frames.trans (congrArg some hs)
    have sky2 : Sky z.G (X.env :: X.outer) z.a (Zc z.cls z.d) X.env.locals s'.heap := hs ▸ z.sky
    refine Sky.land Zc.steady frm hf sky2 fun h3 fl3 up3 => ?_
    -- the error is no frame's dict
    have away : forall {g : Heap} {o : Obj} {vs : Array Value}, g.FunFrames z.G (X.env :: X.outer) → g.get? z.a = some o → o.data = .fields vs → z.a ∉ frs (X.env :: X.outer) := by
      intro g o vs ff e dd hm
      obtain ⟨_, o2, e2, hno⟩ := ff.mem hm
      rw [e] at e2
      cases e2
      exact hno _ dd
    obtain ⟨o3, v3, at3, z3, d3⟩ := fl3.there
    have out : z.a ∉ frs X.stack := by rw [hs]; exact away fl3.2.2.1 at3 d3
    have notL : z.a ≠ X.env.locals := fun q => out (by rw [hs]; exact List.mem_filterMap.mpr ⟨X.env, List.mem_cons_self, by rw [hf, q]⟩)
    have notF : z.a ∉ X.fs := fun hm => out (by
      obtain ⟨e, he, q⟩ := List.mem_filterMap.mp hm
      rw [hs]
      exact List.mem_filterMap.mpr ⟨e, List.mem_cons_of_mem _ he, q⟩)
    have newI := z.notSI fl3.2.1 out
    have new0 := z.not0 hex newI
    have newP := z.notP newI
    have J3 : Inv X pins z.σ z.H { s' with heap := h3 } := z.J.landed z.nb fl3.1 (z.up.trans up3) z.os z.ag
    have S3 := J3.suite at3 d3 z.na notL notF
    refine wpAny_handleBy_cons (codeAny_handlers_test ?_) (by intro q; cases q)
    have tyA : PySem.W.Looks (model X.prog X.w) h3 (typeOf (.ref z.a)) z.cls := fun A Q E s k q => wpAny_typeOf_ref (k _ _ at3) (by rw [z3.1]; exact q)
    have looks := PySem.W.exm_one (M := model X.prog X.w) S3.kIn tyA hyes
    have named : forall {Q E : Value → Shared → Prop}, Q c { s' with heap := h3 } → wpAny (model X.prog X.w) (X.A.mark (some (.ref z.a))) (eval (.Name x np) X.env) Q E { s' with heap := h3 } := by
      intro Q E q
      rcases hc with ⟨hg, hdbg, hm | ⟨hm, hv, hnn⟩⟩
      · exact ld_glob (X := X.suite z.a ((z.a, o3) :: (X.pn ++ pins))) S3 hg hm q hdbg
      · exact ld_blt (X := X.suite z.a ((z.a, o3) :: (X.pn ++ pins))) S3 hg hm hv q hnn hdbg
    refine named (looks.here (codeAny_handlers_suite_as ?_))
    refine HandSPX.lands_againZ fl3 fun h4 fl4 up4 => ?_
    obtain ⟨o4, v4, at4, z4, d4⟩ := fl4.there
    have J4 : Inv X pins z.σ z.H { s' with heap := h4 } := z.J.landed z.nb fl4.1 ((z.up.trans up3).trans up4) z.os z.ag
    have S4 := J4.suite at4 d4 z.na notL notF
    refine store_ok (X := X.suite z.a ((z.a, o4) :: (X.pn ++ pins))) (v := .ref z.a) S4 hN hi (.inl hln) rfl (fun s5 S5 => ?_) (.inr hln)
    refine wpAny_mono ((hsu z.a o4 z.cls z.d (X.pn ++ pins) z4 ⟨_, d4⟩).run [] s5 _ z.H _ S5 (go z.a z.na)) ?_ (fun _ _ q => q.elim)
    intro f s6 hsp
    cases f with
    | next => exact hsp.elim fun σ6 q => q.elim fun H6 q => suite_gone ok hN hi hln z4 d4 new0 newP q.1 fun s7 J7 => ⟨_, _, J7, q.2⟩
    | brk => exact hsp.elim fun σ6 q => q.elim fun H6 q => suite_gone ok hN hi hln z4 d4 new0 newP q.1 fun s7 J7 => ⟨_, _, J7, q.2⟩
    | cont => exact hsp.elim fun σ6 q => q.elim fun H6 q => suite_gone ok hN hi hln z4 d4 new0 newP q.1 fun s7 J7 => ⟨_, _, J7, q.2⟩
    | ret u =>
      obtain ⟨v6, σ6, H6, q1, q2, q3⟩ := hsp
      exact suite_gone ok hN hi hln z4 d4 new0 newP q1 fun s7 J7 => ⟨v6, _, _, J7, q2, q3⟩
  · intro f s1 hsp
    cases f with
    | next => exact hsp.elim fun σ' q => q.elim fun H' q => wpAny_execs_nil ⟨σ', H', q.1.ofTry ok, q.2⟩
    | brk => exact hsp.elim fun σ' q => q.elim fun H' q => ⟨σ', H', q.1.ofTry ok, q.2⟩
    | cont => exact hsp.elim fun σ' q => q.elim fun H' q => ⟨σ', H', q.1.ofTry ok, q.2⟩
    | ret u =>
      obtain ⟨v, σ', H', q1, q2⟩ := hsp
      exact ⟨v, σ', H', q1.ofTry ok, q2⟩
end
end
end Pu

set_option Elab.async false
set_option linter.all false
set_option maxRecDepth 100000
namespace Pu
open Pu.Rp (rp)
open PySem PySem.Spec PyProof.Rows L2
/-! an error that is kept, as a value: by the name of its class -/
structure Xn where
  c : String
  deriving DecidableEq
def isC (K : Fg) (c : String) (C : Addr) : Prop := PySem.W.nsIn K mainGlobals c = some (some (.ref C))
theorem isC.uniq {K : Fg} {c : String} {C D : Addr} (h : isC K c C) (h' : isC K c D) : C = D := by
  unfold isC at h h'
  rw [h] at h'
  cases h'
  rfl
instance : Rp Xn where
  rp K H v x := exists a C, v = .ref a ∧ isC K x.c C ∧ H a = some (ExV (.ref C) none a)
  mono e := fun ⟨a, C, h1, h2, h3⟩ => ⟨a, C, h1, h2, e _ _ h3⟩
/-- one of two kinds -/
instance {A B : Type} [Rp A] [Rp B] : Rp (A ⊕ B) where
  rp K H v x := match x with
    | .inl a => rp K H v a
    | .inr b => rp K H v b
  mono {K H H' v x} e := fun h => by
    cases x with
    | inl a => exact Rp.mono (x := a) e h
    | inr b => exact Rp.mono (x := b) e h
/-- isinstance(e, c), e a kept error -/
def rIsV (K : Fg) : List V → Hp → VK → Prop := fun xs H Q => ∃ (a D : Addr) (c : V) (cv : Value) (b : Bool), xs = [.ref a, c] ∧ H a = some (ExV (.ref D) none a) ∧ ExcC K D ∧ (∀ u, RelV c u → u = cv) ∧ PySem.W.kitOne K (.ref D) cv = some b ∧ Q (.bl b) H
theorem call_isV {X : Cx} : CallR X (.builtin "isinstance") (rIsV X.K) := by
  intro pins s σ H xs us Q I r h
  obtain ⟨a, D, c, cv, b, rfl, ha, C, hcv, e, q⟩ := h
  obtain ⟨u1, u2, rfl, r1, r2⟩ := vals2 r
  cases (show u1 = Value.ref a from r1)
  rw [hcv _ r2]
  obtain ⟨⟨oe, vs, hg, ⟨z1, z2⟩, hd⟩, _, _⟩ := I.hok a _ ha
  have J : PySem.W.InstAt s.heap a oe D none := by
    obtain ⟨oc, od, oda, osl⟩ := oe
    dsimp only at z1 z2 hd
    subst z1 z2 hd
    exact ⟨hg, rfl, rfl, trivial⟩
  exact PySem.W.kia_one (PySem.W.handS_kitx_exc C.hg C.hk C.hs C.hd C.ha C.hn C.ht C.hm) I.kIn J e (fun z => nomatch z) fun tk => ⟨.bl b, H, I.tok tk, rfl, q⟩
theorem isV_K {X : Cx} {K : Fg} (h : X.K = K) : CallR X (.builtin "isinstance") (rIsV K) := h ▸ call_isV
/-- xs.count(True), xs truths -/
def eqb (k : Bool) (v : Value) : Bool := match v with
  | .bool n => n == k
  | _ => false
def rCntB (K : Fg) : V → List V → Hp → VK → Prop := fun x xs H Q => ∃ (p : Addr) (ns : List Bool) (k : Bool), x = .ref p ∧ xs = [.bl k] ∧ SqL K H p (ns.map V.bl) ∧ Q (.int (ns.count k : Nat)) H
theorem vals_bl : forall {ns : List Bool} {us : List Value}, Vals (ns.map V.bl) us -> us = ns.map Value.bool
  | [], us, r => by cases r; rfl
  | n :: ns, us, r => by
    cases r with
    | cons h t =>
      rw [vals_bl t, List.map_cons]
      rw [show _ = Value.bool n from h]
theorem eqb_count (k : Bool) : forall ns : List Bool, (ns.map Value.bool).countP (eqb k) = ns.count k
  | [] => rfl
  | n :: ns => by
    rw [List.map_cons, List.countP_cons, List.count_cons, eqb_count k ns]
    rfl
theorem mt_countB {X : Cx} : MtR X "list.count" (rCntB X.K) := by
  intro pins s σ H x xs v us Q I rx rxs h
  obtain ⟨p, ns, k, rfl, rfl, hs, q⟩ := h
  cases (show v = Value.ref p from rx)
  obtain ⟨u, rfl, ru⟩ := rxs.one
  cases (show u = Value.bool k from ru)
  obtain ⟨its, rv, ⟨⟨cls, dd, data, sl⟩, n, ho, hc, hdn, hd⟩, hlen⟩ := I.list hs
  dsimp only at hc hd
  subst hc hd
  have hv := vals_bl rv
  refine call_meets PySem.F.slot_list_count ⟨_, ho, rfl⟩ PySem.F.entry_list_count (PySem.F.args_list_count_2 _ _) (SeqAt.list_countAt p its.toArray n dd sl (.bool k) (eqb k)) ⟨ho, fun y hy => ?_, ?_⟩
  · have hy' : y ∈ its := by simpa using hy
    rw [hv] at hy'
    obtain ⟨b, _, rfl⟩ := List.mem_map.mp hy'
    exact SeqAt.EqAt.bool_bool b k
  · refine ⟨.int (ns.count k : Nat), H, I.tok _, ⟨s.toks, ?_⟩, q⟩
    rw [← eqb_count, ← hv]
theorem mtcB_K {X : Cx} {K : Fg} (h : X.K = K) : MtR X "list.count" (rCntB K) := h ▸ mt_countB
end Pu

set_option Elab.async false
set_option linter.all false
set_option maxRecDepth 100000
namespace Pu
open Pu.Rp (rp)
open PySem PySem.Spec PyProof.Rows L2
/-! defs that may raise: .inr is the name of the error's class -/
def PSx {R : Type} [Rp R] (K : Fg) (m : List V -> Hp -> Option (R ⊕ String) -> Prop) : Sp := fun vs H Q E => exists r, m vs H (some r) ∧ (forall x, r = .inl x -> forall w H2, Gx H H2 -> rp K H2 w x -> Q w H2) ∧ (forall c, r = .inr c -> forall C H2, isC K c C -> Gx H H2 -> E (.ref C) none H2)
section
variable {K : Fg} {A B C D I : Type} [Rp A] [Rp B] [Rp C] [Rp D] [Rp I]
variable {σ : L2.St} {G G' H H' : Hp} {L L1 L2' : Led} {M : List Addr} {te ta tb tc : TE} {tt tu : TT} {X : Ends} {t1 t2 u : TS} {i j : Nat} {W : String -> Hp -> Prop}
def EvR (K : Fg) (te : TE) (σ : L2.St) (H : Hp) (W : String -> Hp -> Prop) (m : Option (A ⊕ String)) : Prop :=
  forall o, m = some o -> forall H1, Gx H H1 -> forall Q : VK, (forall x v H2, o = .inl x -> Gx H1 H2 -> rp K H2 v x -> Q v H2) -> (forall c H2, o = .inr c -> Gx H1 H2 -> W c H2) -> te σ H1 Q
/-- what a call within a try, or within a def that may raise, wishes -/
abbrev WC (K : Fg) (E : L2.St -> XK) (σ : L2.St) : String -> Hp -> Prop := fun c H2 => forall C, isC K c C -> E σ (.ref C) none H2
theorem er_call {m : List V -> Hp -> Option (A ⊕ String) -> Prop} {o : Option (A ⊕ String)} {t : TA} {E : L2.St -> XK} (h : EvM t σ H m o) : EvR K (tCallS (PSx K m) E t) σ H (WC K E σ) o := fun r hr H1 e Q q w =>
  h r hr H1 e _ fun vs H2 g2 hm => ⟨r, hm, fun x hx v H3 g3 r3 => q x v H3 hx (g2.trans g3) r3, fun c hc C H3 iC g3 => w c H3 hc (g2.trans g3) C iC⟩
def getL {A : Type} : A ⊕ String -> Option A
  | .inl x => some x
  | .inr _ => none
/-- where nothing is raised -/
theorem eb_callX {m : List V -> Hp -> Option (A ⊕ String) -> Prop} {o : Option (A ⊕ String)} {t : TA} {E : L2.St -> XK} (h : EvM t σ H m o) : EvB K (tCallS (PSx K m) E t) σ H (o.bind getL) := fun x hx H1 e Q q => by
  obtain ⟨r, hr, hx⟩ := bnd hx
  cases r with
  | inr c => cases hx
  | inl y =>
    cases hx
    exact h _ hr H1 e _ fun vs H2 g2 hm => ⟨_, hm, fun x hx v H3 g3 r3 => by cases hx; exact q v H3 (g2.trans g3) r3, fun c hc => nomatch hc⟩
theorem EvB.toR {m : Option A} (h : EvB K te σ H m) : EvR K te σ H W (m.map Sum.inl) := fun o ho H1 e Q q _ => by
  obtain ⟨x, hx, rfl⟩ := Option.map_eq_some_iff.mp ho
  exact h x hx H1 e Q fun v H2 g r => q x v H2 rfl g r
def fMapR {A B : Type} (f : A -> Option B) (m : Option (A ⊕ String)) : Option (B ⊕ String) := m.bind fun o => match o with
  | .inl x => (f x).map Sum.inl
  | .inr c => some (.inr c)
theorem er_map {f : A -> Option B} (hf : forall {K : Fg} {H : Hp} {v : V} {a : A} {b : B}, f a = some b -> rp K H v a -> rp K H v b) {m : Option (A ⊕ String)} (h : EvR K te σ H W m) : EvR K te σ H W (fMapR f m) := fun o ho H1 e Q q w => by
  obtain ⟨r, hr, ho⟩ := bnd ho
  cases r with
  | inl x =>
    obtain ⟨y, hy, rfl⟩ := Option.map_eq_some_iff.mp ho
    exact h _ hr H1 e Q (fun x' v H2 hx g rr => by cases hx; exact q y v H2 rfl g (hf hy rr)) (fun c H2 hc => nomatch hc)
  | inr c =>
    cases ho
    exact h _ hr H1 e Q (fun x' v H2 hx => nomatch hx) (fun c' H2 hc g => by cases hc; exact w c H2 rfl g)
def oPairR {A B : Type} (ma : Option A) (mb : Option (B ⊕ String)) : Option ((A × B) ⊕ String) := ma.bind fun a => mb.bind fun o => match o with
  | .inl b => some (.inl (a, b))
  | .inr c => some (.inr c)
theorem er_pair {ma : Option A} {mb : Option (B ⊕ String)} (ha : EvB K ta σ H ma) (hb : EvR K tb σ H W mb) : EvR K (tTup (tCons ta (tCons tb tNil))) σ H W (oPairR ma mb) := fun o ho H1 e Q q w => by
  obtain ⟨a, e1, ho⟩ := bnd ho
  obtain ⟨r, e2, ho⟩ := bnd ho
  refine ha a e1 H1 e _ fun v H2 g2 r2 => hb r e2 H2 (e.trans g2) _ (fun x z H3 hx g3 r3 => ?_) (fun c H3 hc g3 => ?_)
  · subst hx
    cases ho
    refine ⟨by show 2 ≤ sizeLine; decide, fun p hp => ?_⟩
    exact q _ _ _ rfl ((g2.trans g3).trans (Gx.new hp)) ⟨p, v, z, rfl, upd_same, Rp.mono (g3.trans (Gx.new hp)) r2, Rp.mono (Gx.new hp) r3⟩
  · subst hc
    cases ho
    exact w c H3 rfl (g2.trans g3)
/-! statements -/
theorem st_asgR {m : Option (A ⊕ String)} {o : A ⊕ String} (h : EvR K te σ H W m) (hm : m = some o) (k : forall x v H2, o = .inl x -> Gx H H2 -> rp K H2 v x -> u X (σ.set i (some v)) H2) (w : forall c H2, o = .inr c -> Gx H H2 -> W c H2) : tSeq (tAsg te (gName i)) u X σ H :=
  h o hm H Gx.rfl _ (fun x v H2 hx g r => k x v H2 hx g r) w
theorem st_dropR {m : Option (A ⊕ String)} {o : A ⊕ String} (h : EvR K te σ H W m) (hm : m = some o) (k : forall x H2, o = .inl x -> Gx H H2 -> u X σ H2) (w : forall c H2, o = .inr c -> Gx H H2 -> W c H2) : tSeq (tDrop te) u X σ H :=
  h o hm H Gx.rfl _ (fun x v H2 hx g r => k x H2 hx g) w
theorem st_retR {m : Option (A ⊕ String)} {o : A ⊕ String} (h : EvR K te σ H W m) (hm : m = some o) (k : forall x v H2, o = .inl x -> Gx H H2 -> rp K H2 v x -> X.rt v H2) (w : forall c H2, o = .inr c -> Gx H H2 -> W c H2) : tSeq (tRet te) u X σ H :=
  h o hm H Gx.rfl _ k w
/-- a name for what is read, where nothing is one's own to change -/
theorem st_asgE {m : Option A} {x : A} (h : EvB K te σ H m) (hm : m = some x) (k : forall v H2, Gx H H2 -> rp K H2 v x -> u X (σ.set i (some v)) H2) : tSeq (tAsg te (gName i)) u X σ H := h x hm H Gx.rfl _ k
/-! things of any kind -/
theorem x_dct : EvB (A := Dy) K tDNewK σ H (some Dy.dct) := fun x hx H1 e Q q => by
  cases hx
  intro d hd
  refine q _ _ (Gx.new hd) ?_
  show rpY K _ Dy.dct _
  rw [rpY]
  exact ⟨d, rfl, upd_same⟩
theorem x_lenY {ma : Option Dy} (ha : EvB K ta σ H ma) : EvB K (tCB (fun xs H Q => ∃ p ys, xs = [.ref p] ∧ (SqL K H p ys ∨ SqT K H p ys) ∧ Q (.int ys.length) H) (tCons ta tNil)) σ H (o1 yLenT ma) :=
  call1 (fun H v x c r hc Q q => by
    cases x <;> cases hc
    · have r' : rpY K H (.tup _) v := r
      rw [rpY] at r'
      obtain ⟨p, vs, rfl, h2, h3⟩ := r'
      refine ⟨p, vs, rfl, .inr (SqT.of h2), ?_⟩
      rw [(rpYs_al h3).len]
      exact q _ H Gx.rfl rfl
    · have r' : rpY K H (.lst _) v := r
      rw [rpY] at r'
      obtain ⟨p, vs, rfl, h2, h3⟩ := r'
      refine ⟨p, vs, rfl, .inl (SqL.of h2), ?_⟩
      rw [(rpYs_al h3).len]
      exact q _ H Gx.rfl rfl) ha
theorem x_conv {f : A -> B} (hf : forall {K : Fg} {H : Hp} {v : V} {a : A}, rp K H v a -> rp K H v (f a)) {m : Option A} (h : EvB K te σ H m) : EvB K te σ H (m.map f) := fun x hx H1 e Q q => by
  obtain ⟨a, ha, rfl⟩ := Option.map_eq_some_iff.mp hx
  exact h a ha H1 e Q fun v H2 g r => q v H2 g (hf r)
theorem eo_conv {f : A -> B} (hf : forall {K : Fg} {H : Hp} {v : V} {a : A}, rp K H v a -> rp K H v (f a)) {m : Option A} (h : EvO K te σ G H m) : EvO K te σ G H (m.map f) := fun x hx G1 H1 L g e a Q q => by
  obtain ⟨y, hy, rfl⟩ := Option.map_eq_some_iff.mp hx
  exact h y hy G1 H1 L g e a Q fun v G2 H2 g2 e2 a2 r => q v G2 H2 g2 e2 a2 (hf r)
def toYT {A : Type} [Rp A] [ToY A] (x : Tl A) : Tl Dy := ⟨x.l.map ToY.to⟩
def toYL {A : Type} [Rp A] [ToY A] (x : List A) : List Dy := x.map ToY.to
theorem c_toYT [ToY A] {K : Fg} {H : Hp} {v : V} {a : Tl A} (r : rp K H v a) : rp K H v (toYT a) := by
  obtain ⟨p, vs, h1, h2, h3⟩ := r
  exact ⟨p, vs, h1, h2, al_toY h3⟩
theorem c_toYL [ToY A] {K : Fg} {H : Hp} {v : V} {a : List A} (r : rp K H v a) : rp K H v (toYL a) := by
  obtain ⟨p, vs, h1, h2, h3⟩ := r
  exact ⟨p, vs, h1, h2, al_toY h3⟩
theorem c_toY [ToY A] {K : Fg} {H : Hp} {v : V} {a : A} (r : rp K H v a) : rp K H v (ToY.to a : Dy) := ToY.ok r
/-! what is one's own: things that hold lists, too -/
theorem At.both {p : Addr} {o : HO} (a : At G H L) (hp : H p = none) : At (upd G p o) (upd H p o) L := by
  refine ⟨fun b u h => ?_, a.nd, fun q hq => ?_⟩
  · by_cases e : b = p
    · rw [e, upd_same] at h
      rw [e, upd_same]; exact h
    · rw [upd_ne e] at h
      rw [upd_ne e]; exact a.ex b u h
  · obtain ⟨h1, h2, h3⟩ := a.led q hq
    have ne : q.1 ≠ p := fun e => by rw [e, hp] at h1; cases h1
    exact ⟨by rw [upd_ne ne]; exact h1, by rw [upd_ne ne]; exact h2, h3⟩
theorem At.gn {p : Addr} (a : At G H L) (hp : H p = none) : G p = none := a.ex.back hp
def EvLO (K : Fg) (t : TA) (σ : L2.St) (G H : Hp) (m : Option (List A)) : Prop :=
  forall xs, m = some xs -> forall G1 H1 L, Gx G G1 -> Gx H H1 -> At G1 H1 L -> forall Q : List V -> Hp -> Prop, (forall vs G2 H2, Gx G1 G2 -> Gx H1 H2 -> At G2 H2 L -> Al (rp K G2) vs xs -> Q vs H2) -> t σ H1 Q
theorem lo_nil : EvLO (A := A) K tNil σ G H (some []) := fun xs hx G1 H1 L g e a Q q => by
  cases hx
  exact q [] G1 H1 Gx.rfl Gx.rfl a trivial
theorem lo_cons {tr : TA} {ma : Option A} {mr : Option (List A)} (ha : EvO K ta σ G H ma) (hr : EvLO K tr σ G H mr) : EvLO K (tCons ta tr) σ G H (o2 fCons ma mr) := fun xs hx G1 H1 L g e a Q q => by
  obtain ⟨x, y, e1, e2, e3⟩ := o2s hx
  cases e3
  exact ha x e1 G1 H1 L g e a _ fun v G2 H2 g2 h2 a2 r2 => hr y e2 G2 H2 L (g.trans g2) (e.trans h2) a2 _ fun vs G3 H3 g3 h3 a3 r3 => q (v :: vs) G3 H3 (g2.trans g3) (h2.trans h3) a3 ⟨Rp.mono g3 r2, r3⟩
theorem eo_tup {tr : TA} {mr : Option (List A)} (h : EvLO K tr σ G H mr) : EvO K (tTup tr) σ G H (o1 fTup mr) := fun x hx G1 H1 L g e a Q q => by
  obtain ⟨xs, e1, e3⟩ := o1s hx
  obtain ⟨b, e4, e5⟩ := Option.map_eq_some_iff.mp e3
  obtain ⟨rfl, hz⟩ := szOks e4
  subst e5
  refine h b e1 G1 H1 L g e a _ fun vs G2 H2 g2 h2 a2 r2 => ⟨by rw [r2.len]; exact Evl.sz_of hz, fun p hp => ?_⟩
  have gp := Gx.new (o := HO.tup vs) (a2.gn hp)
  exact q _ _ _ (g2.trans gp) (h2.trans (Gx.new hp)) (a2.both hp) ⟨p, vs, rfl, upd_same, r2.mono fun _ _ => Rp.mono gp⟩
theorem eo_lst {tr : TA} {mr : Option (List A)} (h : EvLO K tr σ G H mr) : EvO K (tLst tr) σ G H (o1 szOk mr) := fun x hx G1 H1 L g e a Q q => by
  obtain ⟨xs, e1, e3⟩ := o1s hx
  obtain ⟨rfl, hz⟩ := szOks e3
  refine h x e1 G1 H1 L g e a _ fun vs G2 H2 g2 h2 a2 r2 => ⟨by rw [r2.len]; exact Evl.sz_of hz, fun p hp => ?_⟩
  have gp := Gx.new (o := HO.lst vs) (a2.gn hp)
  exact q _ _ _ (g2.trans gp) (h2.trans (Gx.new hp)) (a2.both hp) ⟨p, vs, rfl, upd_same, r2.mono fun _ _ => Rp.mono gp⟩
theorem eo_cat {ma mb : Option (List A)} (ha : EvO K ta σ G H ma) (hb : EvO K tb σ G H mb) : EvO K (tOp rCat ta tb) σ G H (o2 fCat ma mb) := fun x hx G1 H1 L g e a0 Q q => by
  obtain ⟨a, b, e1, e2, e3⟩ := o2s hx
  obtain ⟨rfl, hz⟩ := szOks e3
  refine ha a e1 G1 H1 L g e a0 _ fun v G2 H2 g2 h2 a2 r2 => hb b e2 G2 H2 L (g.trans g2) (e.trans h2) a2 _ fun w G3 H3 g3 h3 a3 r3 => ?_
  obtain ⟨p, vs, rfl, k2, k3⟩ := Rp.mono g3 r2
  obtain ⟨p2, vs2, rfl, k4, k5⟩ := r3
  refine ⟨p, p2, vs, vs2, rfl, rfl, a3.ex _ _ k2, a3.ex _ _ k4, ?_, fun p' hp => ?_⟩
  · rw [k3.len, k5.len, ← List.length_append]
    exact Evl.sz_of hz
  · have gp := Gx.new (o := HO.lst (vs ++ vs2)) (a3.gn hp)
    exact q _ _ _ ((g2.trans g3).trans gp) ((h2.trans h3).trans (Gx.new hp)) (a3.both hp) ⟨p', _, rfl, upd_same, (k3.app k5).mono fun _ _ => Rp.mono gp⟩
end
end Pu

set_option Elab.async false
set_option linter.all false
set_option maxRecDepth 100000
namespace Pu
open Pu.Rp (rp)
open PySem PySem.Spec PyProof.Rows L2
section
variable {K : Fg} {A B C D I : Type} [Rp A] [Rp B] [Rp C] [Rp D] [Rp I]
variable {σ : L2.St} {G G' H H' : Hp} {L L1 L2' : Led} {M : List Addr} {te ta tb tc : TE} {tt tu : TT} {X : Ends} {t1 t2 u : TS} {i j : Nat} {W : String -> Hp -> Prop}
theorem eo_catT {ma mb : Option (Tl A)} (ha : EvO K ta σ G H ma) (hb : EvO K tb σ G H mb) : EvO K (tOp (rCatA K) ta tb) σ G H (o2 fCatT ma mb) := fun x hx G1 H1 L g e a0 Q q => by
  obtain ⟨a, b, e1, e2, e3⟩ := o2s hx
  obtain ⟨y, e4, e5⟩ := Option.map_eq_some_iff.mp e3
  obtain ⟨rfl, hz⟩ := szOks e4
  subst e5
  refine ha a e1 G1 H1 L g e a0 _ fun v G2 H2 g2 h2 a2 r2 => hb b e2 G2 H2 L (g.trans g2) (e.trans h2) a2 _ fun w G3 H3 g3 h3 a3 r3 => ?_
  obtain ⟨p, vs, rfl, k2, k3⟩ := Rp.mono g3 r2
  obtain ⟨p2, vs2, rfl, k4, k5⟩ := r3
  have k6 := k3.app k5
  refine ⟨p, p2, vs, vs2, rfl, rfl, SqT.of (a3.ex _ _ k2), SqT.of (a3.ex _ _ k4), ?_, fun h0 => q _ _ _ (g2.trans g3) (h2.trans h3) a3 ⟨p2, vs2, rfl, k4, ?_⟩, fun _ h0 => q _ _ _ (g2.trans g3) (h2.trans h3) a3 ⟨p, vs, rfl, k2, ?_⟩, fun _ _ p' hp => ?_⟩
  · rw [k3.len, k5.len, ← List.length_append]; exact Evl.sz_of hz
  · rw [h0] at k6
    exact k6
  · rw [h0, List.append_nil] at k6
    exact k6
  · have gp := Gx.new (o := HO.tup (vs ++ vs2)) (a3.gn hp)
    exact q _ _ _ ((g2.trans g3).trans gp) ((h2.trans h3).trans (Gx.new hp)) (a3.both hp) ⟨p', _, rfl, upd_same, k6.mono fun _ _ => Rp.mono gp⟩
/-- a comprehension over a list as it stands, whose elements may hold lists -/
theorem x_lcO {vs : List Nat} {mx : Option (List I)} {c : I -> Option Bool} {f : I -> Option A} (hi : EvJ K wi σ [] H mx) (hb : j ∈ vs)
    (ht : forall x v H', Gx H H' -> rp K H' v x -> EvT tt ((wipe σ vs).set j (some v)) H' (c x)) (he : forall x v G' H', Gx H G' -> Gx G' H' -> rp K G' v x -> EvO K te ((wipe σ vs).set j (some v)) G' H' (f x)) :
    EvN K (tLc wi (gName j) tt te vs) σ H (oComp c f mx) := fun r hr H1 e1 Q q => by
  cases mx with
  | none => cases hr
  | some xs =>
    have hr' : (lim 100000 xs).bind (comp c f) = some r := hr
    unfold lim at hr'
    by_cases hz : xs.length ≤ 100000
    · rw [if_pos hz] at hr'
      have hr2 : comp c f xs = some r := hr'
      refine hi xs rfl H1 e1 _ fun J H2 e2 wk => ?_
      rw [mns_nil] at wk
      intro D hD
      obtain ⟨go, stop, yld⟩ := wk
      -- what is made so far stands apart from D
      refine ⟨fun i m Hc => m = xs.length - i ∧ i ≤ xs.length ∧ exists Gc vs' ys r', Gx H2 Gc ∧ At Gc Hc [(D, HO.lst vs')] ∧ Al (rp K Gc) vs' ys ∧ ys.length ≤ i ∧ comp c f (xs.drop i) = some r' ∧ r = ys ++ r',
        ⟨xs.length, by simp, Nat.zero_le _, H2, [], [], r, Gx.rfl, (At.nil H2).add hD trivial, trivial, Nat.le_refl _, hr2, rfl⟩, ?_⟩
      rintro i m Hc ⟨rfl, hle, Gc, vs', ys, r', gG, AD, ral, hlen, hcomp, rfl⟩
      have gc : Gx H2 Hc := gG.trans AD.ex
      by_cases hlt : i < xs.length
      · refine .inr ⟨go i Hc hlt gc, fun Hn => i + 1 ≤ xs.length ∧ exists Gc vs' ys' r'', Gx H2 Gc ∧ At Gc Hn [(D, HO.lst vs')] ∧ Al (rp K Gc) vs' ys' ∧ ys'.length ≤ i + 1 ∧ comp c f (xs.drop (i + 1)) = some r'' ∧ ys ++ r' = ys' ++ r'',
          fun Hn hn => ⟨xs.length - (i + 1), by omega, rfl, hn.1, hn.2⟩, fun v Hy hy => ?_⟩
        have hx := List.getElem?_eq_getElem hlt
        obtain ⟨rfl, ry⟩ := yld i Hc v Hy _ gc hx hy
        refine ⟨(wipe_sets hb).trans (wipe_wipe σ vs), ?_⟩
        have g0 : Gx H Gc := (e1.trans e2).trans gG
        rw [List.drop_eq_getElem_cons hlt] at hcomp
        rcases comp_cons hcomp with ⟨hc, y, r2, hf, h2, rfl⟩ | ⟨hc, h2⟩
        · refine ht _ v Hy (g0.trans AD.ex) (Rp.mono (gG.trans AD.ex) ry) true hc Hy Gx.rfl _ fun H3 g3 => ite_tt ?_
          refine he _ v Gc Hy g0 AD.ex (Rp.mono gG ry) y hf Gc H3 [(D, HO.lst vs')] Gx.rfl g3 (AD.grow g3) _ fun u G4 H4 g4 e4 A4 r4 => ?_
          refine ⟨vs', (A4.led (D, HO.lst vs') (List.Mem.head _)).1, ?_, hlt, G4, vs' ++ [u], ys ++ [y], r2, gG.trans g4, At.set (L1 := []) (L2 := []) A4 trivial, (ral.mono fun _ _ => Rp.mono g4).app (Al.one r4), ?_, h2, by simp⟩
          · rw [ral.len]; exact Evl.sz_lt (by omega)
          · rw [List.length_append]; simp only [List.length_cons, List.length_nil]; omega
        · refine ht _ v Hy (g0.trans AD.ex) (Rp.mono (gG.trans AD.ex) ry) false hc Hy Gx.rfl _ fun H3 g3 => ite_ff ?_
          exact ⟨hlt, Gc, vs', ys, r', gG, AD.grow g3, ral, by omega, h2, rfl⟩
      · have hi : i = xs.length := by omega
        subst hi
        rw [List.drop_length] at hcomp
        cases hcomp
        rw [List.append_nil] at *
        exact .inl ⟨stop Hc gc, q D vs' Hc (e2.back hD) (e2.trans gc) (AD.led (D, HO.lst vs') (List.Mem.head _)).1 (ral.mono fun _ _ => Rp.mono AD.ex)⟩
    · rw [if_neg hz] at hr'
      cases hr'
/-- isinstance(e, c), e a kept error of one of some classes -/
def fIsV (rs : List String) (b : String -> Bool) (e : Dy ⊕ Xn) : Option Bool := match e with
  | .inl _ => none
  | .inr x => if x.c ∈ rs then some (b x.c) else none
theorem x_isV {rs : List String} {b : String -> Bool} {cv : V} {uu : Value} {ma : Option (Dy ⊕ Xn)} (hcv : forall z, RelV cv z -> z = uu) (hk : forall c, c ∈ rs -> forall C, isC K c C -> ExcC K C ∧ PySem.W.kitOne K (.ref C) uu = some (b c))
    (ha : EvB K ta σ H ma) : EvB K (tCB (rIsV K) (tCons ta (tCons (tC cv) tNil))) σ H (o1 (fIsV rs b) ma) := fun x hx H1 e Q q => by
  obtain ⟨y, e1, e3⟩ := o1s hx
  cases y with
  | inl _ => cases e3
  | inr y =>
    unfold fIsV at e3
    split at e3
    · cases e3
    · rename_i z hz
      cases hz
      split at e3
      · rename_i hm
        cases e3
        refine ha _ e1 H1 e _ fun v H2 g2 r2 => ?_
        obtain ⟨a, C, rfl, iC, h2⟩ := r2
        obtain ⟨h3, h4⟩ := hk _ hm C iC
        exact ⟨a, C, cv, uu, b y.c, rfl, h2, h3, hcv, h4, q _ H2 g2 rfl⟩
      · cases e3
/-- xs.count(True) -/
def fCntB (x : List Bool) (k : Bool) : Option Int := some (x.count k : Nat)
theorem x_cntB {ma : Option (List Bool)} {mb : Option Bool} (ha : EvB K ta σ H ma) (hb : EvB K tb σ H mb) : EvB K (tBM K "list" (rCntB K) ta (tCons tb tNil)) σ H (o2 fCntB ma mb) := fun x hx H1 e Q q => by
  obtain ⟨a, b, e1, e2, e3⟩ := o2s hx
  cases e3
  refine ha a e1 H1 e _ fun v H2 g2 r2 => ?_
  obtain ⟨p, vs, rfl, h2, h3⟩ := r2
  refine ⟨Or.inl ⟨rfl, vs, SqL.of h2⟩, hb b e2 H2 (e.trans g2) _ fun w H3 g3 r3 => ?_⟩
  rw [al_bl h3] at h2
  exact ⟨p, a, b, rfl, by rw [show w = V.bl b from r3], SqL.of (g3 _ _ h2), q _ H3 (g2.trans g3) rfl⟩
/-- e is not None -/
def fNotNU (_ : Unit) : Option Bool := some false
theorem x_notNU {ma : Option Unit} (ha : EvB K ta σ H ma) : EvB K (tOp (fun x y H Q => y = .non ∧ Q (.bl (!decide (x = .non))) H) ta (tC .non)) σ H (o1 fNotNU ma) := fun x hx H1 e Q q => by
  obtain ⟨a, e1, e3⟩ := o1s hx
  cases e3
  refine ha a e1 H1 e _ fun v H2 g2 r2 => ⟨rfl, ?_⟩
  rw [show v = V.non from r2]
  exact q _ H2 g2 rfl
end
/-- a list of things of any kind as a list of a known kind -/
def yPairI : Dy -> Option (Int × Int)
  | .tup [.int a, .int b] => some (a, b)
  | _ => none
theorem y_pairI {K : Fg} {H : Hp} {v : V} {a : Dy} {b : Int × Int} (h : yPairI a = some b) (r : rp K H v a) : rp K H v b := by
  unfold yPairI at h
  split at h
  · cases h
    obtain ⟨p, u, w, h1, h2, h3, h4⟩ := y_pair (b := (Dy.int _, Dy.int _)) rfl r
    have h3' : rpY K H (.int _) u := h3
    have h4' : rpY K H (.int _) w := h4
    rw [rpY] at h3' h4'
    exact ⟨p, u, w, h1, h2, h3', h4'⟩
  · cases h
def yPairs (d : Dy) : Option (List (Int × Int)) := (yLst d).bind (mapO yPairI)
theorem y_pairs {K : Fg} {H : Hp} {v : V} {a : Dy} {b : List (Int × Int)} (h : yPairs a = some b) (r : rp K H v a) : rp K H v b := by
  unfold yPairs at h
  obtain ⟨xs, h1, h2⟩ := bnd h
  obtain ⟨p, vs, e1, e2, e3⟩ := y_lst h1 r
  exact ⟨p, vs, e1, e2, al_mapO (fun h r => y_pairI h r) h2 e3⟩
end Pu

set_option Elab.async false
set_option linter.all false
set_option maxRecDepth 100000
namespace Pu
open Pu.Rp (rp)
open PySem PySem.Spec PyProof.Rows L2
section
variable {K : Fg} {A B : Type} [Rp A] [Rp B]
variable {σ : L2.St} {G H : Hp} {L : Led} {te : TE} {X : Ends} {u : TS} {i j : Nat}
/-- what comes of a call that may raise: its answer, or its error's class -/
def onR {A B : Type} (o : A ⊕ String) (f : A -> Option B) (g : String -> Option B) : Option B := match o with
  | .inl x => f x
  | .inr c => g c
theorem onRl {A B : Type} {x : A} {f : A -> Option B} {g : String -> Option B} {r : Option B} (h : onR (.inl x) f g = r) : f x = r := h
theorem onRr {A B : Type} {c : String} {f : A -> Option B} {g : String -> Option B} {r : Option B} (h : onR (A := A) (.inr c) f g = r) : g c = r := h
def okc {B : Type} (rs : List String) (c : String) (k : Option B) : Option B := if c ∈ rs then k else none
theorem okcs {B : Type} {rs : List String} {c : String} {k : Option B} {r : B} (h : okc rs c k = some r) : c ∈ rs ∧ k = some r := by
  unfold okc at h
  split at h
  · exact ⟨by assumption, h⟩
  · cases h
/-- x = e, e the error that is handled -/
theorem st_suiteV {a : Addr} {cls : Value} {d : Option Addr} (hs : σ[i]? = some (some (.ref a))) (k : u X ((σ.set j (some (.ref a))).set i none) (upd H a (ExV cls d a))) : tSeq (tAsg (tVar i) (gName j)) tNext (endV i cls d a { X with nx := u X }) σ H := ⟨_, hs, k⟩
theorem heapX {R : Type} [Rp R] {Q : VK} {E : XK} {r : R ⊕ String} {H : Hp} (qn : forall x, r = .inl x -> forall w H2, Gx H H2 -> rp K H2 w x -> Q w H2) (qx : forall c, r = .inr c -> forall C H2, isC K c C -> Gx H H2 -> E (.ref C) none H2) :
    exists H0, Gx H0 H ∧ (forall x, r = .inl x -> forall w H2, Gx H0 H2 -> rp K H2 w x -> Q w H2) ∧ (forall c, r = .inr c -> forall C H2, isC K c C -> Gx H0 H2 -> E (.ref C) none H2) := ⟨H, Gx.rfl, qn, qx⟩
theorem es_cast {M : List Addr} {f : A -> Option B} (hf : forall {K : Fg} {H : Hp} {v : V} {a : A} {b : B}, f a = some b -> rp K H v a -> rp K H v b) {m : Option A} (h : EvS K te σ M H m) : EvS K te σ M H (o1 f m) := fun x hx H1 e Q q => by
  obtain ⟨a, e1, e2⟩ := o1s hx
  exact h a e1 H1 e Q fun v H2 g r => q v H2 g (hf e2 r)
theorem eo_dct : EvO (A := Dy) K tDNewK σ G H (some Dy.dct) := fun x hx G1 H1 L g e a Q q => by
  cases hx
  intro d hd
  have gp := Gx.new (o := HO.dK []) (a.gn hd)
  refine q _ _ _ gp (Gx.new hd) (a.both hd) ?_
  show rpY K _ Dy.dct _
  rw [rpY]
  exact ⟨d, rfl, upd_same⟩
theorem catA_K {X : Cx} (h : X.K = K) : OpR X (binaryOp .Add) (rCatA K) := h ▸ op_catA
end
theorem kit_own {K : Fg} {C D : Addr} {b : Bool} (ne : (Value.ref C == Value.ref D) = false) (hd : PySem.W.hasDictIn K D = true) (ht : PySem.W.typeIn K (.ref D) = some (.type "type")) (hs : PySem.W.subIn K (.ref C) (.ref D) = some b) : PySem.W.kitOne K (.ref C) (.ref D) = some b := by
  obtain ⟨cd, hc, _⟩ := PySem.W.any_some hd
  unfold PySem.W.kitOne PySem.W.kitCls
  rw [if_neg (by rw [ne]; exact Bool.false_ne_true)]
  show (if ((PySem.W.clsIn K D).isSome && PySem.W.typeIn K (Value.ref D) == some (Value.type "type")) = true then PySem.W.subIn K (.ref C) (.ref D) else none) = some b
  rw [hc, ht]
  exact hs
theorem kit_self {K : Fg} {C : Addr} : PySem.W.kitOne K (.ref C) (.ref C) = some true := by
  unfold PySem.W.kitOne
  rw [if_pos (beq_self_eq_true _)]
theorem kit_bi {K : Fg} {C : Addr} {T : String} {b : Bool} (hm : PySem.W.kitMeta T = true) (hs : PySem.W.subIn K (.ref C) (.type T) = some b) : PySem.W.kitOne K (.ref C) (.type T) = some b := by
  unfold PySem.W.kitOne PySem.W.kitCls
  rw [if_neg (fun h => by cases (beq_iff_eq.mp h))]
  show (if PySem.W.kitMeta T = true then PySem.W.subIn K (.ref C) (.type T) else none) = some b
  rw [if_pos hm]
  exact hs
end Pu

set_option Elab.async false
set_option linter.all false
set_option maxRecDepth 100000
namespace Law
open PySem PySem.Spec PyProof.Rows L2 Pu
open Pu.Rp (rp)
def topS (i : Nat) : Stmt := PySem.Challenge.pw_gatewright_k01_sets_asked.main.body.getD i (.Pass ⟨0, 0, 0, 0⟩)
abbrev s_whole_to : Stmt := topS 15
theorem sc_whole_to : FnScope ["most", "thing"] ["most", "thing"] (defScope s_whole_to) := ⟨rfl, rfl, rfl, by decide +kernel, rfl, by decide +kernel, by decide +kernel⟩
abbrev s_is_stretch : Stmt := topS 16
theorem sc_is_stretch : FnScope ["most", "thing", "low", "high"] ["most", "thing"] (defScope s_is_stretch) := ⟨rfl, rfl, rfl, by decide +kernel, rfl, by decide +kernel, by decide +kernel⟩
abbrev s_need_set : Stmt := topS 17
theorem sc_need_set : FnScope ["most", "thing", "free", "stretch", "low", "high"] ["most", "thing"] (defScope s_need_set) := ⟨rfl, rfl, rfl, by decide +kernel, rfl, by decide +kernel, by decide +kernel⟩
abbrev s_merged : Stmt := topS 19
theorem sc_merged : FnScope ["rising", "found", "low", "high", "begin", "end"] ["rising"] (defScope s_merged) := ⟨rfl, rfl, rfl, by decide +kernel, rfl, by decide +kernel, by decide +kernel⟩
abbrev s_set_of : Stmt := topS 18
theorem sc_set_of : FnScope ["most", "pairs", "pair"] ["most", "pairs"] (defScope s_set_of) := ⟨rfl, rfl, rfl, by decide +kernel, rfl, by decide +kernel, by decide +kernel⟩
abbrev s_has : Stmt := topS 20
theorem sc_has : FnScope ["one", "number", "begin", "end", "middle"] ["one", "number"] (defScope s_has) := ⟨rfl, rfl, rfl, by decide +kernel, rfl, by decide +kernel, by decide +kernel⟩
abbrev s_size : Stmt := topS 21
theorem sc_size : FnScope ["one", "low", "high"] ["one"] (defScope s_size) := ⟨rfl, rfl, rfl, by decide +kernel, rfl, by decide +kernel, by decide +kernel⟩
abbrev s_least : Stmt := topS 22
theorem sc_least : FnScope ["one"] ["one"] (defScope s_least) := ⟨rfl, rfl, rfl, by decide +kernel, rfl, by decide +kernel, by decide +kernel⟩
abbrev s_law_mixed : Stmt := topS 24
theorem sc_law_mixed : FnScope ["_law_cell", "_law_k", "_law_number"] ["_law_cell", "_law_k"] (defScope s_law_mixed) := ⟨rfl, rfl, rfl, by decide +kernel, rfl, by decide +kernel, by decide +kernel⟩
abbrev s_law_great : Stmt := topS 25
theorem sc_law_great : FnScope ["_law_cell", "_law_k"] ["_law_cell", "_law_k"] (defScope s_law_great) := ⟨rfl, rfl, rfl, by decide +kernel, rfl, by decide +kernel, by decide +kernel⟩
abbrev s_law_alone : Stmt := topS 26
theorem sc_law_alone : FnScope ["_law_e", "_law_at", "_law_some"] ["_law_e", "_law_at"] (defScope s_law_alone) := ⟨rfl, rfl, rfl, by decide +kernel, rfl, by decide +kernel, by decide +kernel⟩
abbrev s_law_set : Stmt := topS 27
theorem sc_law_set : FnScope ["_law_script", "_law_found", "_law_begin", "_law_k", "_law_cell", "_law_gap", "_law_wide"] ["_law_script"] (defScope s_law_set) := ⟨rfl, rfl, rfl, by decide +kernel, rfl, by decide +kernel, by decide +kernel⟩
abbrev s_law_odd : Stmt := topS 28
theorem sc_law_odd : FnScope ["_law_low", "_law_high", "_law_most", "_law_some"] ["_law_low", "_law_high", "_law_most"] (defScope s_law_odd) := ⟨rfl, rfl, rfl, by decide +kernel, rfl, by decide +kernel, by decide +kernel⟩
abbrev s_law_no_sets : Stmt := topS 29
theorem sc_law_no_sets : FnScope ["_law_some", "_law_most", "_law_at", "_law_low", "_law_high", "_law_found", "_law_one"] ["_law_some", "_law_most", "_law_at"] (defScope s_law_no_sets) := ⟨rfl, rfl, rfl, by decide +kernel, rfl, by decide +kernel, by decide +kernel⟩
abbrev s_law_no_lists : Stmt := topS 30
theorem sc_law_no_lists : FnScope ["_law_some", "_law_most", "_law_at", "_law_low", "_law_high", "_law_found", "_law_one"] ["_law_some", "_law_most", "_law_at"] (defScope s_law_no_lists) := ⟨rfl, rfl, rfl, by decide +kernel, rfl, by decide +kernel, by decide +kernel⟩
abbrev s_law_told : Stmt := topS 31
theorem sc_law_told : FnScope ["_law_deed", "_law_most", "_law_thing", "_law_found", "_law_e"] ["_law_deed", "_law_most", "_law_thing"] (defScope s_law_told) := ⟨rfl, rfl, rfl, by decide +kernel, rfl, by decide +kernel, by decide +kernel⟩
abbrev s_law_asked : Stmt := topS 32
theorem sc_law_asked : FnScope ["_law_some", "_law_most", "_law_numbers", "_law_low", "_law_high", "_law_number", "_law_found", "_law_one"] ["_law_some", "_law_most"] (defScope s_law_asked) := ⟨rfl, rfl, rfl, by decide +kernel, rfl, by decide +kernel, by decide +kernel⟩
abbrev s_law : Stmt := topS 33
theorem sc_law : FnScope ["_law_script", "_law_some", "_law_cell", "_law_most", "_law_at", "_law_thing", "_law_handed", "_law_found"] ["_law_script"] (defScope s_law) := ⟨rfl, rfl, rfl, by decide +kernel, rfl, by decide +kernel, by decide +kernel⟩
theorem bb_ValueError : bootBuiltins "ValueError" = some (.type "ValueError") := by decide +kernel
theorem bb_any : bootBuiltins "any" = some (.builtin "any") := by decide +kernel
theorem bb_bool : bootBuiltins "bool" = some (.type "bool") := by decide +kernel
theorem bb_enumerate : bootBuiltins "enumerate" = some (.type "enumerate") := by decide +kernel
theorem bb_int : bootBuiltins "int" = some (.type "int") := by decide +kernel
theorem bb_isinstance : bootBuiltins "isinstance" = some (.builtin "isinstance") := by decide +kernel
theorem bb_len : bootBuiltins "len" = some (.builtin "len") := by decide +kernel
theorem bb_list : bootBuiltins "list" = some (.type "list") := by decide +kernel
theorem bb_max : bootBuiltins "max" = some (.builtin "max") := by decide +kernel
theorem bb_min : bootBuiltins "min" = some (.builtin "min") := by decide +kernel
theorem bb_sorted : bootBuiltins "sorted" = some (.builtin "sorted") := by decide +kernel
theorem bb_sum : bootBuiltins "sum" = some (.builtin "sum") := by decide +kernel
theorem bb_tuple : bootBuiltins "tuple" = some (.type "tuple") := by decide +kernel
structure Txt (K : Fg) (mg : Str → Option Value) where
  a_whole_to : Addr
  d_whole_to : FuncData
  F_whole_to : Fun K "whole_to" "whole_to" s_whole_to a_whole_to d_whole_to
  b_whole_to : Binds K d_whole_to ["most", "thing"] []
  g_whole_to : mg "whole_to" = some (.ref a_whole_to)
  a_is_stretch : Addr
  d_is_stretch : FuncData
  F_is_stretch : Fun K "is_stretch" "is_stretch" s_is_stretch a_is_stretch d_is_stretch
  b_is_stretch : Binds K d_is_stretch ["most", "thing"] []
  g_is_stretch : mg "is_stretch" = some (.ref a_is_stretch)
  a_need_set : Addr
  d_need_set : FuncData
  F_need_set : Fun K "need_set" "need_set" s_need_set a_need_set d_need_set
  b_need_set : Binds K d_need_set ["most", "thing"] []
  g_need_set : mg "need_set" = some (.ref a_need_set)
  a_merged : Addr
  d_merged : FuncData
  F_merged : Fun K "merged" "merged" s_merged a_merged d_merged
  b_merged : Binds K d_merged ["rising"] []
  g_merged : mg "merged" = some (.ref a_merged)
  a_set_of : Addr
  d_set_of : FuncData
  F_set_of : Fun K "set_of" "set_of" s_set_of a_set_of d_set_of
  b_set_of : Binds K d_set_of ["most", "pairs"] []
  g_set_of : mg "set_of" = some (.ref a_set_of)
  a_has : Addr
  d_has : FuncData
  F_has : Fun K "has" "has" s_has a_has d_has
  b_has : Binds K d_has ["one", "number"] []
  g_has : mg "has" = some (.ref a_has)
  a_size : Addr
  d_size : FuncData
  F_size : Fun K "size" "size" s_size a_size d_size
  b_size : Binds K d_size ["one"] []
  g_size : mg "size" = some (.ref a_size)
  a_least : Addr
  d_least : FuncData
  F_least : Fun K "least" "least" s_least a_least d_least
  b_least : Binds K d_least ["one"] []
  g_least : mg "least" = some (.ref a_least)
  a_law_mixed : Addr
  d_law_mixed : FuncData
  F_law_mixed : Fun K "_law_mixed" "_law_mixed" s_law_mixed a_law_mixed d_law_mixed
  b_law_mixed : Binds K d_law_mixed ["_law_cell", "_law_k"] []
  g_law_mixed : mg "_law_mixed" = some (.ref a_law_mixed)
  a_law_great : Addr
  d_law_great : FuncData
  F_law_great : Fun K "_law_great" "_law_great" s_law_great a_law_great d_law_great
  b_law_great : Binds K d_law_great ["_law_cell", "_law_k"] []
  g_law_great : mg "_law_great" = some (.ref a_law_great)
  a_law_alone : Addr
  d_law_alone : FuncData
  F_law_alone : Fun K "_law_alone" "_law_alone" s_law_alone a_law_alone d_law_alone
  b_law_alone : Binds K d_law_alone ["_law_e", "_law_at"] []
  g_law_alone : mg "_law_alone" = some (.ref a_law_alone)
  a_law_set : Addr
  d_law_set : FuncData
  F_law_set : Fun K "_law_set" "_law_set" s_law_set a_law_set d_law_set
  b_law_set : Binds K d_law_set ["_law_script"] []
  g_law_set : mg "_law_set" = some (.ref a_law_set)
  a_law_odd : Addr
  d_law_odd : FuncData
  F_law_odd : Fun K "_law_odd" "_law_odd" s_law_odd a_law_odd d_law_odd
  b_law_odd : Binds K d_law_odd ["_law_low", "_law_high", "_law_most"] []
  g_law_odd : mg "_law_odd" = some (.ref a_law_odd)
  a_law_no_sets : Addr
  d_law_no_sets : FuncData
  F_law_no_sets : Fun K "_law_no_sets" "_law_no_sets" s_law_no_sets a_law_no_sets d_law_no_sets
  b_law_no_sets : Binds K d_law_no_sets ["_law_some", "_law_most", "_law_at"] []
  g_law_no_sets : mg "_law_no_sets" = some (.ref a_law_no_sets)
  a_law_no_lists : Addr
  d_law_no_lists : FuncData
  F_law_no_lists : Fun K "_law_no_lists" "_law_no_lists" s_law_no_lists a_law_no_lists d_law_no_lists
  b_law_no_lists : Binds K d_law_no_lists ["_law_some", "_law_most", "_law_at"] []
  g_law_no_lists : mg "_law_no_lists" = some (.ref a_law_no_lists)
  a_law_told : Addr
  d_law_told : FuncData
  F_law_told : Fun K "_law_told" "_law_told" s_law_told a_law_told d_law_told
  b_law_told : Binds K d_law_told ["_law_deed", "_law_most", "_law_thing"] []
  g_law_told : mg "_law_told" = some (.ref a_law_told)
  a_law_asked : Addr
  d_law_asked : FuncData
  F_law_asked : Fun K "_law_asked" "_law_asked" s_law_asked a_law_asked d_law_asked
  b_law_asked : Binds K d_law_asked ["_law_some", "_law_most"] []
  g_law_asked : mg "_law_asked" = some (.ref a_law_asked)
  a_law : Addr
  d_law : FuncData
  F_law : Fun K "law" "law" s_law a_law d_law
  b_law : Binds K d_law ["_law_script"] []
  g_law : mg "law" = some (.ref a_law)
  n_ValueError : mg "ValueError" = none
  n_any : mg "any" = none
  n_bool : mg "bool" = none
  n_enumerate : mg "enumerate" = none
  n_int : mg "int" = none
  n_isinstance : mg "isinstance" = none
  n_len : mg "len" = none
  n_list : mg "list" = none
  n_max : mg "max" = none
  n_min : mg "min" = none
  n_sorted : mg "sorted" = none
  n_sum : mg "sum" = none
  n_tuple : mg "tuple" = none
  c_BadAsking : Addr
  g_BadAsking : mg "BadAsking" = some (.ref c_BadAsking)
  i_BadAsking : isC K "BadAsking" c_BadAsking
  c_BadSet : Addr
  g_BadSet : mg "BadSet" = some (.ref c_BadSet)
  i_BadSet : isC K "BadSet" c_BadSet
  c_BadText : Addr
  g_BadText : mg "BadText" = some (.ref c_BadText)
  i_BadText : isC K "BadText" c_BadText
  c_BadValue : Addr
  g_BadValue : mg "BadValue" = some (.ref c_BadValue)
  i_BadValue : isC K "BadValue" c_BadValue
  c_BadWish : Addr
  g_BadWish : mg "BadWish" = some (.ref c_BadWish)
  i_BadWish : isC K "BadWish" c_BadWish
  c_GateError : Addr
  g_GateError : mg "GateError" = some (.ref c_GateError)
  i_GateError : isC K "GateError" c_GateError
  c_InUse : Addr
  g_InUse : mg "InUse" = some (.ref c_InUse)
  i_InUse : isC K "InUse" c_InUse
  c_NoGate : Addr
  g_NoGate : mg "NoGate" = some (.ref c_NoGate)
  i_NoGate : isC K "NoGate" c_NoGate
  c_NoName : Addr
  g_NoName : mg "NoName" = some (.ref c_NoName)
  i_NoName : isC K "NoName" c_NoName
  c_NoRule : Addr
  g_NoRule : mg "NoRule" = some (.ref c_NoRule)
  i_NoRule : isC K "NoRule" c_NoRule
  c_NoVersion : Addr
  g_NoVersion : mg "NoVersion" = some (.ref c_NoVersion)
  i_NoVersion : isC K "NoVersion" c_NoVersion
  c_Ring : Addr
  g_Ring : mg "Ring" = some (.ref c_Ring)
  i_Ring : isC K "Ring" c_Ring
  c_TooMuch : Addr
  g_TooMuch : mg "TooMuch" = some (.ref c_TooMuch)
  i_TooMuch : isC K "TooMuch" c_TooMuch
  x_BadSet : PySem.W.excIn K c_BadSet [.type "ValueError", .type "Exception", .type "BaseException", .type "object"] "ValueError.__new__" = true
  k_BadSet : PySem.W.keepIn K (.ref c_BadSet) = true
  b_BadSet : PySem.W.subIn K (.ref c_BadSet) (.type "BaseException") = some true
  t_BadSet : PySem.W.typeIn K (.ref c_BadSet) = some (.type "type")
  xm_GateError : forall c, c ∈ ["BadSet"] -> forall C, isC K c C -> PySem.W.exmOne K (.ref C) (.ref c_GateError) = some true
  ki_BadAsking : forall c, c ∈ ["BadSet"] -> forall C, isC K c C -> ExcC K C ∧ PySem.W.kitOne K (.ref C) (.ref c_BadAsking) = some (decide (c = "BadAsking"))
  ki_BadSet : forall c, c ∈ ["BadSet"] -> forall C, isC K c C -> ExcC K C ∧ PySem.W.kitOne K (.ref C) (.ref c_BadSet) = some (decide (c = "BadSet"))
  ki_BadText : forall c, c ∈ ["BadSet"] -> forall C, isC K c C -> ExcC K C ∧ PySem.W.kitOne K (.ref C) (.ref c_BadText) = some (decide (c = "BadText"))
  ki_BadValue : forall c, c ∈ ["BadSet"] -> forall C, isC K c C -> ExcC K C ∧ PySem.W.kitOne K (.ref C) (.ref c_BadValue) = some (decide (c = "BadValue"))
  ki_BadWish : forall c, c ∈ ["BadSet"] -> forall C, isC K c C -> ExcC K C ∧ PySem.W.kitOne K (.ref C) (.ref c_BadWish) = some (decide (c = "BadWish"))
  ki_GateError : forall c, c ∈ ["BadSet"] -> forall C, isC K c C -> ExcC K C ∧ PySem.W.kitOne K (.ref C) (.ref c_GateError) = some true
  ki_InUse : forall c, c ∈ ["BadSet"] -> forall C, isC K c C -> ExcC K C ∧ PySem.W.kitOne K (.ref C) (.ref c_InUse) = some (decide (c = "InUse"))
  ki_NoGate : forall c, c ∈ ["BadSet"] -> forall C, isC K c C -> ExcC K C ∧ PySem.W.kitOne K (.ref C) (.ref c_NoGate) = some (decide (c = "NoGate"))
  ki_NoName : forall c, c ∈ ["BadSet"] -> forall C, isC K c C -> ExcC K C ∧ PySem.W.kitOne K (.ref C) (.ref c_NoName) = some (decide (c = "NoName"))
  ki_NoRule : forall c, c ∈ ["BadSet"] -> forall C, isC K c C -> ExcC K C ∧ PySem.W.kitOne K (.ref C) (.ref c_NoRule) = some (decide (c = "NoRule"))
  ki_NoVersion : forall c, c ∈ ["BadSet"] -> forall C, isC K c C -> ExcC K C ∧ PySem.W.kitOne K (.ref C) (.ref c_NoVersion) = some (decide (c = "NoVersion"))
  ki_Ring : forall c, c ∈ ["BadSet"] -> forall C, isC K c C -> ExcC K C ∧ PySem.W.kitOne K (.ref C) (.ref c_Ring) = some (decide (c = "Ring"))
  ki_TooMuch : forall c, c ∈ ["BadSet"] -> forall C, isC K c C -> ExcC K C ∧ PySem.W.kitOne K (.ref C) (.ref c_TooMuch) = some (decide (c = "TooMuch"))
  ki_ValueError : forall c, c ∈ ["BadSet"] -> forall C, isC K c C -> ExcC K C ∧ PySem.W.kitOne K (.ref C) (.type "ValueError") = some true
/-! whole_to -/
def m_whole_to (x_most : Int) (x_thing : Dy) : Option Bool := (oAnd (o1 (fIsY "int") (some x_thing)) (oAnd (oNot (o1 (fIsY "bool") (some x_thing))) (oChain fLe fLe (some (0 : Int)) (o1 yInt (some x_thing)) (some x_most))))
set_option maxHeartbeats 4000000 in
theorem ok_whole_to {P : Program} {w : World} {K : Fg} {mg : Str → Option Value} {base : Heap} (T : Txt K mg) : FnOk P w K mg base CX0 1 T.a_whole_to T.d_whole_to ["most", "thing"] (PSb K (A2 K m_whole_to)) := by
  refine T.F_whole_to.ok sc_whole_to (fun vs H Q E h => ?_) (fun cdv A0 outer s H vs Q E hr h => ?_)
  · obtain ⟨r, ⟨v_most, v_thing, x_most, x_thing, rfl, r_most, r_thing, hm⟩, q⟩ := h
    rfl
  · obtain ⟨r_fn, ⟨v_most, v_thing, x_most, x_thing, rfl, r_most, r_thing, hm⟩, q⟩ := h
    refine ⟨_, (pss_cons (ps_ret (pe_and (pe_callB (isi_K (K := K) rfl) (by rfl) T.n_isinstance bb_isinstance (pa_cons (pv 1) (pa_cons (pe_bltn (v := .ty "int") (by rfl) T.n_int bb_int rfl) pa_nil))) (pe_and (pe_not (pe_callB (isi_K (K := K) rfl) (by rfl) T.n_isinstance bb_isinstance (pa_cons (pv 1) (pa_cons (pe_bltn (v := .ty "bool") (by rfl) T.n_bool bb_bool rfl) pa_nil)))) (pe_one (by exact pe_chain op_le op_le pe_int (pv 1) (pv 0)))))) pss_nil), ?_⟩
    unfold m_whole_to at hm
    obtain ⟨H0, e0, q⟩ := heapB q
    obtain ⟨G, A, r_most, r_thing⟩ : exists G, At G H [] ∧ rp K G v_most x_most ∧ rp K G v_thing x_thing := ⟨H, At.nil H, r_most, r_thing⟩
    exact sr_b (eb_and (x_isiY kitY_int (eb_v rfl (Rp.mono A.ex r_thing))) (eb_and (eb_not (x_isiY kitY_bool (eb_v rfl (Rp.mono A.ex r_thing)))) (x_lele (eb_int (K := K)) (x_cast (fun h r => y_int h r) (eb_v rfl (Rp.mono A.ex r_thing))) (eb_v rfl (Rp.mono A.ex r_most))))) hm fun w H e r => q w H (e0.trans e) r
/-! is_stretch -/
def m_is_stretch (x_most : Int) (x_thing : Dy) : Option Bool := ((oOr (oNot (o1 (fIsY "tuple") (some x_thing))) (o2 fNe (o1 yLenT (some x_thing)) (some (2 : Int))))).bind fun b1 => if b1 = true then (some false) else (((o1 yPair (some x_thing))).bind fun y3 => (oAnd (o2 m_whole_to (some x_most) (some y3.1)) (oAnd (o2 m_whole_to (some x_most) (some y3.2)) (o2 fLe (o1 yInt (some y3.1)) (o1 yInt (some y3.2))))))
set_option maxHeartbeats 4000000 in
theorem ok_is_stretch {P : Program} {w : World} {K : Fg} {mg : Str → Option Value} {base : Heap} (T : Txt K mg) : FnOk P w K mg base CX0 2 T.a_is_stretch T.d_is_stretch ["most", "thing"] (PSb K (A2 K m_is_stretch)) := by
  refine T.F_is_stretch.ok sc_is_stretch (fun vs H Q E h => ?_) (fun cdv A0 outer s H vs Q E hr h => ?_)
  · obtain ⟨r, ⟨v_most, v_thing, x_most, x_thing, rfl, r_most, r_thing, hm⟩, q⟩ := h
    rfl
  · obtain ⟨r_fn, ⟨v_most, v_thing, x_most, x_thing, rfl, r_most, r_thing, hm⟩, q⟩ := h
    refine ⟨_, (pss_cons (ps_if (PW.pt (pw_or (pt_not (pt_val (pe_callB (isi_K (K := K) rfl) (by rfl) T.n_isinstance bb_isinstance (pa_cons (pv 1) (pa_cons (pe_bltn (v := .ty "tuple") (by rfl) T.n_tuple bb_tuple rfl) pa_nil))))) (pw_or1 (pt_cmpR (opNe_K (K := K) rfl hr.units) (pe_callB (len_K (K := K) rfl) (by rfl) T.n_len bb_len (pa_cons (pv 1) pa_nil)) pe_int (nomark _))))) (pss_cons (ps_ret pe_bl) pss_nil) pss_nil) (pss_cons (ps_asg (pv 1) (pg_tup rfl (pgs_cons (pg_name (i := 2) sc_is_stretch.nd rfl (by first | exact Or.inl rfl | exact Or.inr rfl)) (pgs_cons (pg_name (i := 3) sc_is_stretch.nd rfl (by first | exact Or.inl rfl | exact Or.inr rfl)) pgs_nil)))) (pss_cons (ps_ret (pe_and (pe_call (ok_whole_to T) (hr.mono (by decide)) (by rfl) T.g_whole_to T.F_whole_to.kp T.b_whole_to .nil pass0 (pa_cons (pv 0) (pa_cons (pv 2) pa_nil))) (pe_and (pe_call (ok_whole_to T) (hr.mono (by decide)) (by rfl) T.g_whole_to T.F_whole_to.kp T.b_whole_to .nil pass0 (pa_cons (pv 0) (pa_cons (pv 3) pa_nil))) (pe_one (pe_cmpR op_le (pv 2) (pv 3) (nomark _)))))) pss_nil))), ?_⟩
    unfold m_is_stretch at hm
    obtain ⟨H0, e0, q⟩ := heapB q
    obtain ⟨G, A, r_most, r_thing⟩ : exists G, At G H [] ∧ rp K G v_most x_most ∧ rp K G v_thing x_thing := ⟨H, At.nil H, r_most, r_thing⟩
    obtain ⟨b1, hb1, hm⟩ := bnd hm
    refine st_if (et_or (et_not (et_b (x_isiY kitY_tuple (eb_v rfl (Rp.mono A.ex r_thing))))) (et_test (x_ne (by decide) (x_lenY (eb_v rfl (Rp.mono A.ex r_thing))) (eb_int (K := K))))) hb1 (fun eb1 H2 e => ?_) (fun eb1 H2 e => ?_)
    · subst eb1
      replace hm := itt hm
      replace A := A.grow e
      replace e0 := e0.trans e
      exact sr_b (eb_bl (K := K)) hm fun w H e r => q w H (e0.trans e) r
    · subst eb1
      replace hm := itf hm
      replace A := A.grow e
      replace e0 := e0.trans e
      obtain ⟨y3, hy3, hm⟩ := bnd hm
      refine st_asgP (x_cast (fun h r => y_pair h r) (eb_v rfl (Rp.mono A.ex r_thing))) hy3 (tg_p tg_n tg_n) fun σ2 H4 e hb => ?_
      obtain ⟨_, ⟨v_low, r_low, rfl⟩, ⟨v_high, r_high, rfl⟩⟩ := hb
      replace A := A.grow e
      replace e0 := e0.trans e
      have g := A.ex
      replace A := At.nil H4
      replace r_most := Rp.mono g r_most
      replace r_thing := Rp.mono g r_thing
      exact sr_b (eb_and (eb_call (em2 (eb_v rfl (Rp.mono A.ex r_most)) (eb_v rfl (Rp.mono A.ex r_low)))) (eb_and (eb_call (em2 (eb_v rfl (Rp.mono A.ex r_most)) (eb_v rfl (Rp.mono A.ex r_high)))) (x_le (x_cast (fun h r => y_int h r) (eb_v rfl (Rp.mono A.ex r_low))) (x_cast (fun h r => y_int h r) (eb_v rfl (Rp.mono A.ex r_high)))))) hm fun w H e r => q w H (e0.trans e) r
/-! need_set -/
def m_need_set_l1 (z9_most : Int) (s9 : Int) (x9 : Dy) : Option (Int ⊕ (Unit ⊕ String)) := ((oNot (o2 m_is_stretch (some z9_most) (some x9)))).bind fun b14 => if b14 = true then (some (Sum.inr (Sum.inr "BadSet"))) else (((o1 yPair (some x9))).bind fun y16 => ((o2 fLt (o1 yInt (some y16.1)) (some s9))).bind fun b18 => if b18 = true then (some (Sum.inr (Sum.inr "BadSet"))) else (((o2 fAdd (o1 yInt (some y16.2)) (some (2 : Int)))).bind fun x_free => some (Sum.inl x_free)))
def m_need_set (x_most : Int) (x_thing : Dy) : Option (Unit ⊕ String) := ((oNot (o1 (fIsY "tuple") (some x_thing)))).bind fun b5 => if b5 = true then (some (Sum.inr "BadSet")) else (((some (0 : Int))).bind fun x_free => ((((o1 yTl (some x_thing))).map Tl.l)).bind fun xs9 => (loopM (m_need_set_l1 x_most) x_free xs9).bind fun res9 => fin (fun w9 => some (Sum.inl ())) res9)
set_option maxHeartbeats 4000000 in
theorem ok_need_set {P : Program} {w : World} {K : Fg} {mg : Str → Option Value} {base : Heap} (T : Txt K mg) : FnOk P w K mg base (L2.CX P w) 3 T.a_need_set T.d_need_set ["most", "thing"] (PSx K (A2 K m_need_set)) := by
  refine T.F_need_set.okX sc_need_set (fun vs H Q E h => ?_) (fun cdv A0 outer s H vs Q E hr h => ?_)
  · obtain ⟨r, ⟨v_most, v_thing, x_most, x_thing, rfl, r_most, r_thing, hm⟩, q⟩ := h
    rfl
  · obtain ⟨r_fn, ⟨v_most, v_thing, x_most, x_thing, rfl, r_most, r_thing, hm⟩, qn, qx⟩ := h
    refine ⟨_, (pss_cons (ps_if (pt_not (pt_val (pe_callB (isi_K (K := K) rfl) (by rfl) T.n_isinstance bb_isinstance (pa_cons (pv 1) (pa_cons (pe_bltn (v := .ty "tuple") (by rfl) T.n_tuple bb_tuple rfl) pa_nil))))) (pss_cons (ps_raise rfl (takes_of rfl rfl rfl rfl) (pmk_own PySem.F.excBase_ValueError T.x_BadSet T.g_BadSet T.k_BadSet (raises_own T.b_BadSet T.t_BadSet) rfl)) pss_nil) pss_nil) (pss_cons (ps_set (i := 2) sc_need_set.nd rfl (by first | exact Or.inl rfl | exact Or.inr rfl) pe_int) (pss_cons (ps_for (passes_of rfl) rfl (piT_K (K := K) rfl (pv 1)) (pg_name (i := 3) sc_need_set.nd rfl (by first | exact Or.inl rfl | exact Or.inr rfl)) (pss_cons (ps_if (pt_not (pt_val (pe_call (ok_is_stretch T) (hr.mono (by decide)) (by rfl) T.g_is_stretch T.F_is_stretch.kp T.b_is_stretch .nil pass0 (pa_cons (pv 0) (pa_cons (pv 3) pa_nil))))) (pss_cons (ps_raise rfl (takes_of rfl rfl rfl rfl) (pmk_own PySem.F.excBase_ValueError T.x_BadSet T.g_BadSet T.k_BadSet (raises_own T.b_BadSet T.t_BadSet) rfl)) pss_nil) pss_nil) (pss_cons (ps_asg (pv 3) (pg_tup rfl (pgs_cons (pg_name (i := 4) sc_need_set.nd rfl (by first | exact Or.inl rfl | exact Or.inr rfl)) (pgs_cons (pg_name (i := 5) sc_need_set.nd rfl (by first | exact Or.inl rfl | exact Or.inr rfl)) pgs_nil)))) (pss_cons (ps_if (pt_cmpR op_lt (pv 4) (pv 2) (nomark _)) (pss_cons (ps_raise rfl (takes_of rfl rfl rfl rfl) (pmk_own PySem.F.excBase_ValueError T.x_BadSet T.g_BadSet T.k_BadSet (raises_own T.b_BadSet T.t_BadSet) rfl)) pss_nil) pss_nil) (pss_cons (ps_set (i := 2) sc_need_set.nd rfl (by first | exact Or.inl rfl | exact Or.inr rfl) (pe_op op_add (pv 5) pe_int)) pss_nil))))) pss_nil))), ?_⟩
    unfold m_need_set at hm
    obtain ⟨H0, e0, qn, qx⟩ := heapX qn qx
    obtain ⟨G, A, r_most, r_thing⟩ : exists G, At G H [] ∧ rp K G v_most x_most ∧ rp K G v_thing x_thing := ⟨H, At.nil H, r_most, r_thing⟩
    obtain ⟨b5, hb5, hm⟩ := bnd hm
    refine st_if (et_not (et_b (x_isiY kitY_tuple (eb_v rfl (Rp.mono A.ex r_thing))))) hb5 (fun eb5 H6 e => ?_) (fun eb5 H6 e => ?_)
    · subst eb5
      replace hm := itt hm
      replace A := A.grow e
      replace e0 := e0.trans e
      exact qx "BadSet" (Option.some.inj hm).symm _ _ T.i_BadSet e0
    · subst eb5
      replace hm := itf hm
      replace A := A.grow e
      replace e0 := e0.trans e
      obtain ⟨x_free, hx, hm⟩ := bnd hm
      refine st_asg ((eb_int (K := K))).own hx A fun v_free G7 H8 g e A r_free => ?_
      replace r_most := Rp.mono g r_most
      replace r_thing := Rp.mono g r_thing
      replace e0 := e0.trans e
      obtain ⟨xs9, hx9, hm⟩ := bnd hm
      obtain ⟨res9, hl9, hm⟩ := bnd hm
      have hmL9 := hm
      refine st_for (M := []) (i_tup (es_cast (fun h r => y_tl h r) (es_v rfl r_thing A.ex (A.hM (by simp))))) hx9 fun J9 HL9 e wk9 => ?_
      replace A := A.grow e
      replace e0 := e0.trans e
      have eM9 : Gx (mns HL9 []) HL9 := mns_ex
      have gL9 : Gx G7 G7 := Gx.rfl
      refine loop_run wk9 hl9 tg_n (fun (s9 : Int) (σ : L2.St) (H : Hp) => exists (Gi : Hp) (k_stretch : Option V) (k_low : Option V) (k_high : Option V) (v_free : V), σ = [some v_most, some v_thing, some v_free, k_stretch, k_low, k_high] ∧ Gx H0 H ∧ Gx (mns HL9 []) H ∧ Gx G7 Gi ∧ At Gi H [] ∧ rp K Gi v_free s9) (fun s σ H h => ?_) ?_ (fun s9 x9 o9 σ H13 H11 σ2 hxm hf hr9 hin e hb => ?_) (fun w9 σ H23 hres hin => ?_)
      · obtain ⟨Gi, k_stretch, k_low, k_high, v_free, rfl, e0, eM9, gL9, A, r_free⟩ := h
        exact eM9
      · exact ⟨_, _, _, _, _, rfl, e0, eM9, gL9, A, r_free⟩
      · obtain ⟨G10, k_stretch, k_low, k_high, v_free, rfl, e0, eM9, gL9, A, r_free⟩ := hin
        obtain ⟨v_stretch, r_stretch, rfl⟩ := hb
        replace A := A.grow e
        replace e0 := e0.trans e
        replace eM9 := eM9.trans e
        replace r_most := Rp.mono gL9 r_most
        replace r_thing := Rp.mono gL9 r_thing
        have g := A.ex
        replace A := At.nil H11
        replace r_most := Rp.mono g r_most
        replace r_thing := Rp.mono g r_thing
        replace r_free := Rp.mono g r_free
        replace gL9 := gL9.trans g
        have hm := hf
        unfold m_need_set_l1 at hm
        have hret9 := fun r h => finr (r := r) (hr9 r h) hmL9
        obtain ⟨b14, hb14, hm⟩ := bnd hm
        refine st_if (et_not (et_b (eb_call (em2 (eb_v rfl (Rp.mono A.ex r_most)) (eb_v rfl (Rp.mono A.ex r_stretch)))))) hb14 (fun eb14 H15 e => ?_) (fun eb14 H15 e => ?_)
        · subst eb14
          replace hm := itt hm
          replace A := A.grow e
          replace e0 := e0.trans e
          replace eM9 := eM9.trans e
          have er := hret9 _ (Option.some.inj hm).symm
          exact qx "BadSet" er.symm _ _ T.i_BadSet e0
        · subst eb14
          replace hm := itf hm
          replace A := A.grow e
          replace e0 := e0.trans e
          replace eM9 := eM9.trans e
          obtain ⟨y16, hy16, hm⟩ := bnd hm
          refine st_asgP (x_cast (fun h r => y_pair h r) (eb_v rfl (Rp.mono A.ex r_stretch))) hy16 (tg_p tg_n tg_n) fun σ2 H17 e hb => ?_
          obtain ⟨_, ⟨v_low, r_low, rfl⟩, ⟨v_high, r_high, rfl⟩⟩ := hb
          replace A := A.grow e
          replace e0 := e0.trans e
          replace eM9 := eM9.trans e
          have g := A.ex
          replace A := At.nil H17
          replace r_most := Rp.mono g r_most
          replace r_thing := Rp.mono g r_thing
          replace r_free := Rp.mono g r_free
          replace r_stretch := Rp.mono g r_stretch
          replace gL9 := gL9.trans g
          obtain ⟨b18, hb18, hm⟩ := bnd hm
          refine st_if (et_test (x_lt (x_cast (fun h r => y_int h r) (eb_v rfl (Rp.mono A.ex r_low))) (eb_v rfl (Rp.mono A.ex r_free)))) hb18 (fun eb18 H19 e => ?_) (fun eb18 H19 e => ?_)
          · subst eb18
            replace hm := itt hm
            replace A := A.grow e
            replace e0 := e0.trans e
            replace eM9 := eM9.trans e
            have er := hret9 _ (Option.some.inj hm).symm
            exact qx "BadSet" er.symm _ _ T.i_BadSet e0
          · subst eb18
            replace hm := itf hm
            replace A := A.grow e
            replace e0 := e0.trans e
            replace eM9 := eM9.trans e
            obtain ⟨x_free, hx, hm⟩ := bnd hm
            refine st_asg ((x_add (x_cast (fun h r => y_int h r) (eb_v rfl (Rp.mono A.ex r_high))) (eb_int (K := K)))).own hx A fun v_free G20 H21 g e A r_free => ?_
            replace r_most := Rp.mono g r_most
            replace r_thing := Rp.mono g r_thing
            replace r_stretch := Rp.mono g r_stretch
            replace r_low := Rp.mono g r_low
            replace r_high := Rp.mono g r_high
            replace gL9 := gL9.trans g
            replace e0 := e0.trans e
            replace eM9 := eM9.trans e
            exact ⟨_, (Option.some.inj hm).symm, _, _, _, _, _, rfl, e0, eM9, gL9, A, r_free⟩
      · obtain ⟨G22, k_stretch, k_low, k_high, v_free, rfl, e0, eM9, gL9, A, r_free⟩ := hin
        replace r_most := Rp.mono gL9 r_most
        replace r_thing := Rp.mono gL9 r_thing
        subst hres
        replace hm := finl hm
        exact qn () (Option.some.inj hm).symm V.non _ e0 rfl
/-! merged -/
def m_merged_l1 (s25 : (List (Int × Int))) (x25 : (Int × Int)) : Option (List (Int × Int)) := ((oAnd (o1 fTru (some s25)) (o2 fLe (some x25.1) (o2 fAdd (o1 fSnd (o2 ix (some s25) (o1 fNeg (some (1 : Int))))) (some (1 : Int)))))).bind fun b31 => if b31 = true then ((fPop s25).bind fun y33 => ((o2 fPair (some y33.1.1) (o2 fMax (some y33.1.2) (some x25.2)))).bind fun y36 => (fApp y33.2 y36).bind fun x_found => some x_found) else (((o2 fPair (some x25.1) (some x25.2))).bind fun y40 => (fApp s25 y40).bind fun x_found => some x_found)
def m_merged (x_rising : (List (Int × Int))) : Option (Tl (Int × Int)) := ((some x_rising)).bind fun xs25 => (foldO m_merged_l1 ([] : List (Int × Int)) xs25).bind fun w25 => (o1 fTuple (some w25))
set_option maxHeartbeats 4000000 in
theorem ok_merged {P : Program} {w : World} {K : Fg} {mg : Str → Option Value} {base : Heap} (T : Txt K mg) : FnOk P w K mg base CX0 1 T.a_merged T.d_merged ["rising"] (PSb K (A1 K m_merged)) := by
  refine T.F_merged.ok sc_merged (fun vs H Q E h => ?_) (fun cdv A0 outer s H vs Q E hr h => ?_)
  · obtain ⟨r, ⟨v_rising, x_rising, rfl, r_rising, hm⟩, q⟩ := h
    rfl
  · obtain ⟨r_fn, ⟨v_rising, x_rising, rfl, r_rising, hm⟩, q⟩ := h
    refine ⟨_, (pss_cons (ps_set (i := 1) sc_merged.nd rfl (by first | exact Or.inl rfl | exact Or.inr rfl) (pe_lst pa_nil)) (pss_cons (ps_for PassesOwn.never rfl (piL_K (K := K) rfl (pv 0)) (pg_tup rfl (pgs_cons (pg_name (i := 2) sc_merged.nd rfl (by first | exact Or.inl rfl | exact Or.inr rfl)) (pgs_cons (pg_name (i := 3) sc_merged.nd rfl (by first | exact Or.inl rfl | exact Or.inr rfl)) pgs_nil))) (pss_cons (ps_if (PW.pt (pw_and (pt_truth (pv 1) (by intro _; rfl)) (pw_and1 (pt_cmpR op_le (pv 2) (pe_op op_add (pe_ix (ixT_K (K := K) rfl) (pe_ix (ixL_K (K := K) rfl) (pv 1) (pe_un un_neg pe_int) (fun _ _ => rfl)) pe_int (fun _ _ => rfl)) pe_int) (nomark _))))) (pss_cons (ps_asg (pe_bm0 PySem.F.plainAttrs_list PySem.F.slot_list_pop PySem.F.type_list_pop mt_pop (pv 1)) (pg_tup rfl (pgs_cons (pg_name (i := 4) sc_merged.nd rfl (by first | exact Or.inl rfl | exact Or.inr rfl)) (pgs_cons (pg_name (i := 5) sc_merged.nd rfl (by first | exact Or.inl rfl | exact Or.inr rfl)) pgs_nil)))) (pss_cons (ps_expr (pe_bm PySem.F.plainAttrs_list PySem.F.slot_list_append PySem.F.type_list_append mt_append (pv 1) (pa_cons (pe_tup (pa_cons (pv 4) (pa_cons (pe_callB (call_max2 rfl) (by rfl) T.n_max bb_max (pa_cons (pv 5) (pa_cons (pv 3) pa_nil))) pa_nil))) pa_nil))) pss_nil)) (pss_cons (ps_expr (pe_bm PySem.F.plainAttrs_list PySem.F.slot_list_append PySem.F.type_list_append mt_append (pv 1) (pa_cons (pe_tup (pa_cons (pv 2) (pa_cons (pv 3) pa_nil))) pa_nil))) pss_nil)) pss_nil)) (pss_cons (ps_ret (pe_callTy (tof_K (K := K) rfl) (by rfl) T.n_tuple bb_tuple (pa_cons (pv 1) pa_nil))) pss_nil))), ?_⟩
    unfold m_merged at hm
    obtain ⟨H0, e0, q⟩ := heapB q
    obtain ⟨G, A, r_rising⟩ : exists G, At G H [] ∧ rp K G v_rising x_rising := ⟨H, At.nil H, r_rising⟩
    refine st_new A fun p_found hp_found A => ?_
    have ne0_found := e0.back hp_found
    replace e0 := e0.trans (Gx.new (o := HO.lst []) hp_found)
    have al_found : Al (rp K G) ([] : List V) ([] : List (Int × Int)) := trivial
    generalize upd _ p_found (.lst []) = H24 at A e0 ⊢
    obtain ⟨xs25, hx25, hm⟩ := bnd hm
    obtain ⟨w25, hl25, hm⟩ := bnd hm
    refine st_for (M := [p_found]) (i_list (es_v rfl r_rising A.ex (A.hM (by simp)))) hx25 fun J25 HL25 e wk25 => ?_
    replace A := A.grow e
    replace e0 := e0.trans e
    have eM25 : Gx (mns HL25 [p_found]) HL25 := mns_ex
    have gL25 : Gx G G := Gx.rfl
    have neM25_found : (mns HL25 [p_found]) p_found = none := mns_in (by simp)
    refine fold_run wk25 hl25 (tg_p tg_n tg_n) (fun (s25 : (List (Int × Int))) (σ : L2.St) (H : Hp) => exists (Gi : Hp) (k_low : Option V) (k_high : Option V) (k_begin : Option V) (k_end : Option V) (vs_found : List V), σ = [some v_rising, some (.ref p_found), k_low, k_high, k_begin, k_end] ∧ Gx H0 H ∧ Gx (mns HL25 [p_found]) H ∧ Gx G Gi ∧ At Gi H [(p_found, HO.lst vs_found)] ∧ Al (rp K Gi) vs_found s25) (fun s σ H h => ?_) ?_ (fun s25 x25 o25 σ H29 H27 σ2 hxm hf hin e hb => ?_) (fun σ H45 hin => ?_)
    · obtain ⟨Gi, k_low, k_high, k_begin, k_end, vs_found, rfl, e0, eM25, gL25, A, al_found⟩ := h
      exact eM25
    · exact ⟨_, _, _, _, _, _, rfl, e0, eM25, gL25, A, al_found⟩
    · obtain ⟨G26, k_low, k_high, k_begin, k_end, vs_found, rfl, e0, eM25, gL25, A, al_found⟩ := hin
      obtain ⟨_, ⟨v_low, r_low, rfl⟩, ⟨v_high, r_high, rfl⟩⟩ := hb
      replace A := A.grow e
      replace e0 := e0.trans e
      replace eM25 := eM25.trans e
      replace r_rising := Rp.mono gL25 r_rising
      replace r_low := Im.im A.tx r_low
      replace r_high := Im.im A.tx r_high
      have g := A.gh
      replace A := A.hid
      replace r_rising := Rp.mono g r_rising
      replace al_found := al_found.mono fun _ _ => Rp.mono g
      replace gL25 := gL25.trans g
      generalize hid _ _ = G30 at *
      have hm := hf
      unfold m_merged_l1 at hm
      obtain ⟨b31, hb31, hm⟩ := bnd hm
      refine st_if (et_and (t_tru (eb_v rfl (mv_rp A (List.Mem.head _) al_found))) (et_test (x_le (eb_v rfl (Rp.mono A.ex r_low)) (x_add (x_snd (x_ixL (eb_v rfl (mv_rp A (List.Mem.head _) al_found)) (x_neg (eb_int (K := K))))) (eb_int (K := K)))))) hb31 (fun eb31 H32 e => ?_) (fun eb31 H32 e => ?_)
      · subst eb31
        replace hm := itt hm
        replace A := A.grow e
        replace e0 := e0.trans e
        replace eM25 := eM25.trans e
        obtain ⟨y33, hy33, hm⟩ := bnd hm
        obtain ⟨hy33a, hy33b⟩ := fPops hy33
        refine st_popP (L1 := []) (slot_ref rfl) A al_found hy33a (tg_p tg_n tg_n) fun σ2 A hb => ?_
        replace al_found := al_dl al_found
        rw [← hy33b] at al_found
        replace e0 := Gx.mutA e0 ne0_found A
        replace eM25 := Gx.mutA eM25 neM25_found A
        generalize upd _ p_found (.lst _) = H34 at A hb e0 eM25 ⊢
        obtain ⟨_, ⟨v_begin, r_begin, rfl⟩, ⟨v_end, r_end, rfl⟩⟩ := hb
        replace r_begin := Im.im A.tx r_begin
        replace r_end := Im.im A.tx r_end
        have g := A.gh
        replace A := A.hid
        replace r_rising := Rp.mono g r_rising
        replace al_found := al_found.mono fun _ _ => Rp.mono g
        replace r_low := Rp.mono g r_low
        replace r_high := Rp.mono g r_high
        replace gL25 := gL25.trans g
        generalize hid _ _ = G35 at *
        obtain ⟨y36, hy36, hm⟩ := bnd hm
        obtain ⟨x_found, hd, hm⟩ := bnd hm
        replace hd := fApps hd
        refine st_app (L1 := []) (slot_ref rfl) ((x_pair (eb_v rfl (Rp.mono A.ex r_begin)) (x_max (eb_v rfl (Rp.mono A.ex r_end)) (eb_v rfl (Rp.mono A.ex r_high))))).own hy36 A (by rw [al_found.len]; exact hd.2) fun v_y36 G37 H38 g e A r_y36 => ?_
        replace r_rising := Rp.mono g r_rising
        replace al_found := al_found.mono fun _ _ => Rp.mono g
        replace r_low := Rp.mono g r_low
        replace r_high := Rp.mono g r_high
        replace r_begin := Rp.mono g r_begin
        replace r_end := Rp.mono g r_end
        replace gL25 := gL25.trans g
        replace e0 := e0.trans e
        replace eM25 := eM25.trans e
        replace al_found := al_found.app (Al.one r_y36)
        rw [← hd.1] at al_found
        replace e0 := Gx.mutA e0 ne0_found A
        replace eM25 := Gx.mutA eM25 neM25_found A
        generalize upd _ p_found (.lst _) = H39 at A e0 eM25 ⊢
        obtain rfl := Option.some.inj hm
        exact ⟨_, _, _, _, _, _, rfl, e0, eM25, gL25, A, al_found⟩
      · subst eb31
        replace hm := itf hm
        replace A := A.grow e
        replace e0 := e0.trans e
        replace eM25 := eM25.trans e
        obtain ⟨y40, hy40, hm⟩ := bnd hm
        obtain ⟨x_found, hd, hm⟩ := bnd hm
        replace hd := fApps hd
        refine st_app (L1 := []) (slot_ref rfl) ((x_pair (eb_v rfl (Rp.mono A.ex r_low)) (eb_v rfl (Rp.mono A.ex r_high)))).own hy40 A (by rw [al_found.len]; exact hd.2) fun v_y40 G41 H42 g e A r_y40 => ?_
        replace r_rising := Rp.mono g r_rising
        replace al_found := al_found.mono fun _ _ => Rp.mono g
        replace r_low := Rp.mono g r_low
        replace r_high := Rp.mono g r_high
        replace gL25 := gL25.trans g
        replace e0 := e0.trans e
        replace eM25 := eM25.trans e
        replace al_found := al_found.app (Al.one r_y40)
        rw [← hd.1] at al_found
        replace e0 := Gx.mutA e0 ne0_found A
        replace eM25 := Gx.mutA eM25 neM25_found A
        generalize upd _ p_found (.lst _) = H43 at A e0 eM25 ⊢
        obtain rfl := Option.some.inj hm
        exact ⟨_, _, _, _, _, _, rfl, e0, eM25, gL25, A, al_found⟩
    · obtain ⟨G44, k_low, k_high, k_begin, k_end, vs_found, rfl, e0, eM25, gL25, A, al_found⟩ := hin
      replace r_rising := Rp.mono gL25 r_rising
      exact sr_b (x_tuple (eb_v rfl (mv_rp A (List.Mem.head _) al_found))) hm fun w H e r => q w H (e0.trans e) r
/-! set_of -/
def m_set_of_l1 (z48_most : Int) (s48 : Unit) (x48 : Dy) : Option (Unit ⊕ ((Tl (Int × Int)) ⊕ String)) := ((oNot (o2 m_is_stretch (some z48_most) (some x48)))).bind fun b53 => if b53 = true then (some (Sum.inr (Sum.inr "BadSet"))) else (some (Sum.inl ()))
def m_set_of (x_most : Int) (x_pairs : Dy) : Option ((Tl (Int × Int)) ⊕ String) := ((oNot (o1 (fIsY "list") (some x_pairs)))).bind fun b46 => if b46 = true then (some (Sum.inr "BadSet")) else (((o1 yLst (some x_pairs))).bind fun xs48 => (loopM (m_set_of_l1 x_most) () xs48).bind fun res48 => fin (fun w48 => ((o1 m_merged (o1 fSortP (o1 yPairs (some x_pairs))))).bind fun y57 => some (Sum.inl y57)) res48)
set_option maxHeartbeats 4000000 in
theorem ok_set_of {P : Program} {w : World} {K : Fg} {mg : Str → Option Value} {base : Heap} (T : Txt K mg) : FnOk P w K mg base (L2.CX P w) 3 T.a_set_of T.d_set_of ["most", "pairs"] (PSx K (A2 K m_set_of)) := by
  refine T.F_set_of.okX sc_set_of (fun vs H Q E h => ?_) (fun cdv A0 outer s H vs Q E hr h => ?_)
  · obtain ⟨r, ⟨v_most, v_pairs, x_most, x_pairs, rfl, r_most, r_pairs, hm⟩, q⟩ := h
    rfl
  · obtain ⟨r_fn, ⟨v_most, v_pairs, x_most, x_pairs, rfl, r_most, r_pairs, hm⟩, qn, qx⟩ := h
    refine ⟨_, (pss_cons (ps_if (pt_not (pt_val (pe_callB (isi_K (K := K) rfl) (by rfl) T.n_isinstance bb_isinstance (pa_cons (pv 1) (pa_cons (pe_bltn (v := .ty "list") (by rfl) T.n_list bb_list rfl) pa_nil))))) (pss_cons (ps_raise rfl (takes_of rfl rfl rfl rfl) (pmk_own PySem.F.excBase_ValueError T.x_BadSet T.g_BadSet T.k_BadSet (raises_own T.b_BadSet T.t_BadSet) rfl)) pss_nil) pss_nil) (pss_cons (ps_for (passes_of rfl) rfl (piL_K (K := K) rfl (pv 1)) (pg_name (i := 2) sc_set_of.nd rfl (by first | exact Or.inl rfl | exact Or.inr rfl)) (pss_cons (ps_if (pt_not (pt_val (pe_call (ok_is_stretch T) (hr.mono (by decide)) (by rfl) T.g_is_stretch T.F_is_stretch.kp T.b_is_stretch .nil pass0 (pa_cons (pv 0) (pa_cons (pv 2) pa_nil))))) (pss_cons (ps_raise rfl (takes_of rfl rfl rfl rfl) (pmk_own PySem.F.excBase_ValueError T.x_BadSet T.g_BadSet T.k_BadSet (raises_own T.b_BadSet T.t_BadSet) rfl)) pss_nil) pss_nil) pss_nil)) (pss_cons (ps_ret (pe_call (ok_merged T) (hr.mono (by decide)) (by rfl) T.g_merged T.F_merged.kp T.b_merged .nil pass0 (pa_cons (pe_callB cr_sortE (by rfl) T.n_sorted bb_sorted (pa_cons (pv 1) pa_nil)) pa_nil))) pss_nil))), ?_⟩
    unfold m_set_of at hm
    obtain ⟨H0, e0, qn, qx⟩ := heapX qn qx
    obtain ⟨G, A, r_most, r_pairs⟩ : exists G, At G H [] ∧ rp K G v_most x_most ∧ rp K G v_pairs x_pairs := ⟨H, At.nil H, r_most, r_pairs⟩
    obtain ⟨b46, hb46, hm⟩ := bnd hm
    refine st_if (et_not (et_b (x_isiY kitY_list (eb_v rfl (Rp.mono A.ex r_pairs))))) hb46 (fun eb46 H47 e => ?_) (fun eb46 H47 e => ?_)
    · subst eb46
      replace hm := itt hm
      replace A := A.grow e
      replace e0 := e0.trans e
      exact qx "BadSet" (Option.some.inj hm).symm _ _ T.i_BadSet e0
    · subst eb46
      replace hm := itf hm
      replace A := A.grow e
      replace e0 := e0.trans e
      obtain ⟨xs48, hx48, hm⟩ := bnd hm
      obtain ⟨res48, hl48, hm⟩ := bnd hm
      have hmL48 := hm
      refine st_for (M := []) (i_list (es_cast (fun h r => y_lst h r) (es_v rfl r_pairs A.ex (A.hM (by simp))))) hx48 fun J48 HL48 e wk48 => ?_
      replace A := A.grow e
      replace e0 := e0.trans e
      have eM48 : Gx (mns HL48 []) HL48 := mns_ex
      have gL48 : Gx G G := Gx.rfl
      refine loop_run wk48 hl48 tg_n (fun (s48 : Unit) (σ : L2.St) (H : Hp) => exists (Gi : Hp) (k_pair : Option V), σ = [some v_most, some v_pairs, k_pair] ∧ Gx H0 H ∧ Gx (mns HL48 []) H ∧ Gx G Gi ∧ At Gi H []) (fun s σ H h => ?_) ?_ (fun s48 x48 o48 σ H52 H50 σ2 hxm hf hr48 hin e hb => ?_) (fun w48 σ H56 hres hin => ?_)
      · obtain ⟨Gi, k_pair, rfl, e0, eM48, gL48, A⟩ := h
        exact eM48
      · exact ⟨_, _, rfl, e0, eM48, gL48, A⟩
      · obtain ⟨G49, k_pair, rfl, e0, eM48, gL48, A⟩ := hin
        obtain ⟨v_pair, r_pair, rfl⟩ := hb
        replace A := A.grow e
        replace e0 := e0.trans e
        replace eM48 := eM48.trans e
        replace r_most := Rp.mono gL48 r_most
        replace r_pairs := Rp.mono gL48 r_pairs
        have g := A.ex
        replace A := At.nil H50
        replace r_most := Rp.mono g r_most
        replace r_pairs := Rp.mono g r_pairs
        replace gL48 := gL48.trans g
        have hm := hf
        unfold m_set_of_l1 at hm
        have hret48 := fun r h => finr (r := r) (hr48 r h) hmL48
        obtain ⟨b53, hb53, hm⟩ := bnd hm
        refine st_if (et_not (et_b (eb_call (em2 (eb_v rfl (Rp.mono A.ex r_most)) (eb_v rfl (Rp.mono A.ex r_pair)))))) hb53 (fun eb53 H54 e => ?_) (fun eb53 H54 e => ?_)
        · subst eb53
          replace hm := itt hm
          replace A := A.grow e
          replace e0 := e0.trans e
          replace eM48 := eM48.trans e
          have er := hret48 _ (Option.some.inj hm).symm
          exact qx "BadSet" er.symm _ _ T.i_BadSet e0
        · subst eb53
          replace hm := itf hm
          replace A := A.grow e
          replace e0 := e0.trans e
          replace eM48 := eM48.trans e
          exact ⟨_, (Option.some.inj hm).symm, _, _, rfl, e0, eM48, gL48, A⟩
      · obtain ⟨G55, k_pair, rfl, e0, eM48, gL48, A⟩ := hin
        replace r_most := Rp.mono gL48 r_most
        replace r_pairs := Rp.mono gL48 r_pairs
        subst hres
        replace hm := finl hm
        obtain ⟨y57, hy57, hm⟩ := bnd hm
        have er := Option.some.inj hm
        subst er
        exact sr_b (eb_call (em1 ((x_sortP (x_cast (fun h r => y_pairs h r) (eb_v rfl (Rp.mono A.ex r_pairs))))).b)) hy57 fun w H e r => qn y57 rfl w H (e0.trans e) r
/-! has -/
def m_has_c1 (z62_one : (Tl (Int × Int))) (z62_number : Int) (s62 : Int × Int) : Option Bool := (o2 fLt (some s62.1) (some s62.2))
def m_has_l1 (z62_one : (Tl (Int × Int))) (z62_number : Int) (s62 : Int × Int) : Option (Int × Int) := ((o2 fDiv (o2 fAdd (some s62.1) (some s62.2)) (some (2 : Int)))).bind fun x_middle => ((o2 fLt (o1 fSnd (o2 fIxT (some z62_one) (some x_middle))) (some z62_number))).bind fun b73 => if b73 = true then (((o2 fAdd (some x_middle) (some (1 : Int)))).bind fun x_begin => some (x_begin, s62.2)) else (((some x_middle)).bind fun x_end => some (s62.1, x_end))
def m_has (x_one : (Tl (Int × Int))) (x_number : Int) : Option Bool := ((some (0 : Int))).bind fun x_begin => ((o1 fLenT (some x_one))).bind fun x_end => (whileO (m_has_c1 x_one x_number) (m_has_l1 x_one x_number) (x_one.l.length + 1) (x_begin, x_end)).bind fun w62 => (oAnd (o2 fLt (some w62.1) (o1 fLenT (some x_one))) (o2 fLe (o1 fFst (o2 fIxT (some x_one) (some w62.1))) (some x_number)))
set_option maxHeartbeats 4000000 in
theorem ok_has {P : Program} {w : World} {K : Fg} {mg : Str → Option Value} {base : Heap} (T : Txt K mg) : FnOk P w K mg base CX0 1 T.a_has T.d_has ["one", "number"] (PSb K (A2 K m_has)) := by
  refine T.F_has.ok sc_has (fun vs H Q E h => ?_) (fun cdv A0 outer s H vs Q E hr h => ?_)
  · obtain ⟨r, ⟨v_one, v_number, x_one, x_number, rfl, r_one, r_number, hm⟩, q⟩ := h
    rfl
  · obtain ⟨r_fn, ⟨v_one, v_number, x_one, x_number, rfl, r_one, r_number, hm⟩, q⟩ := h
    refine ⟨_, (pss_cons (ps_set (i := 2) sc_has.nd rfl (by first | exact Or.inl rfl | exact Or.inr rfl) pe_int) (pss_cons (ps_set (i := 3) sc_has.nd rfl (by first | exact Or.inl rfl | exact Or.inr rfl) (pe_callB (len_K (K := K) rfl) (by rfl) T.n_len bb_len (pa_cons (pv 0) pa_nil))) (pss_cons (ps_while PassesOwn.never (pt_cmpR op_lt (pv 2) (pv 3) (nomark _)) (pss_cons (ps_set (i := 4) sc_has.nd rfl (by first | exact Or.inl rfl | exact Or.inr rfl) (pe_op op_fdiv (pe_op op_add (pv 2) (pv 3)) pe_int)) (pss_cons (ps_if (pt_cmpR op_lt (pe_ix (ixT_K (K := K) rfl) (pe_ix (ixT_K (K := K) rfl) (pv 0) (pv 4) (fun _ _ => rfl)) pe_int (fun _ _ => rfl)) (pv 1) (nomark _)) (pss_cons (ps_set (i := 2) sc_has.nd rfl (by first | exact Or.inl rfl | exact Or.inr rfl) (pe_op op_add (pv 4) pe_int)) pss_nil) (pss_cons (ps_set (i := 3) sc_has.nd rfl (by first | exact Or.inl rfl | exact Or.inr rfl) (pv 4)) pss_nil)) pss_nil))) (pss_cons (ps_ret (pe_and (pe_cmpR op_lt (pv 2) (pe_callB (len_K (K := K) rfl) (by rfl) T.n_len bb_len (pa_cons (pv 0) pa_nil)) (nomark _)) (pe_one (pe_cmpR op_le (pe_ix (ixT_K (K := K) rfl) (pe_ix (ixT_K (K := K) rfl) (pv 0) (pv 2) (fun _ _ => rfl)) pe_int (fun _ _ => rfl)) (pv 1) (nomark _))))) pss_nil)))), ?_⟩
    unfold m_has at hm
    obtain ⟨H0, e0, q⟩ := heapB q
    obtain ⟨G, A, r_one, r_number⟩ : exists G, At G H [] ∧ rp K G v_one x_one ∧ rp K G v_number x_number := ⟨H, At.nil H, r_one, r_number⟩
    obtain ⟨x_begin, hx, hm⟩ := bnd hm
    refine st_asg ((eb_int (K := K))).own hx A fun v_begin G58 H59 g e A r_begin => ?_
    replace r_one := Rp.mono g r_one
    replace r_number := Rp.mono g r_number
    replace e0 := e0.trans e
    obtain ⟨x_end, hx, hm⟩ := bnd hm
    refine st_asg ((x_lenT (eb_v rfl (Rp.mono A.ex r_one)))).own hx A fun v_end G60 H61 g e A r_end => ?_
    replace r_one := Rp.mono g r_one
    replace r_number := Rp.mono g r_number
    replace r_begin := Rp.mono g r_begin
    replace e0 := e0.trans e
    obtain ⟨w62, hl62, hm⟩ := bnd hm
    have gL62 : Gx G60 G60 := Gx.rfl
    refine st_whileO hl62 (fun (s62 : Int × Int) (σ : L2.St) (H : Hp) => exists (Gi : Hp) (k_middle : Option V) (v_begin : V) (v_end : V), σ = [some v_one, some v_number, some v_begin, some v_end, k_middle] ∧ Gx H0 H ∧ Gx G60 Gi ∧ At Gi H [] ∧ rp K Gi v_begin s62.1 ∧ rp K Gi v_end s62.2) ?_ (fun s62 σ H64 hin => ?_) (fun s62 o62 σ H67 H66 hcm hf hin e => ?_) (fun σ H70 H69 hin e => ?_)
    · exact ⟨_, _, _, _, rfl, e0, gL62, A, r_begin, r_end⟩
    · obtain ⟨G63, k_middle, v_begin, v_end, rfl, e0, gL62, A, r_begin, r_end⟩ := hin
      replace r_one := Rp.mono gL62 r_one
      replace r_number := Rp.mono gL62 r_number
      show EvT _ _ _ (m_has_c1 x_one x_number s62)
      unfold m_has_c1
      exact (et_test (x_lt (eb_v rfl (Rp.mono A.ex r_begin)) (eb_v rfl (Rp.mono A.ex r_end))))
    · obtain ⟨G65, k_middle, v_begin, v_end, rfl, e0, gL62, A, r_begin, r_end⟩ := hin
      replace A := A.grow e
      replace e0 := e0.trans e
      replace r_one := Rp.mono gL62 r_one
      replace r_number := Rp.mono gL62 r_number
      have hm := hf
      unfold m_has_l1 at hm
      obtain ⟨x_middle, hx, hm⟩ := bnd hm
      refine st_asg ((x_div (x_add (eb_v rfl (Rp.mono A.ex r_begin)) (eb_v rfl (Rp.mono A.ex r_end))) (eb_int (K := K)))).own hx A fun v_middle G71 H72 g e A r_middle => ?_
      replace r_one := Rp.mono g r_one
      replace r_number := Rp.mono g r_number
      replace r_begin := Rp.mono g r_begin
      replace r_end := Rp.mono g r_end
      replace gL62 := gL62.trans g
      replace e0 := e0.trans e
      obtain ⟨b73, hb73, hm⟩ := bnd hm
      refine st_if (et_test (x_lt (x_snd (x_ixT (eb_v rfl (Rp.mono A.ex r_one)) (eb_v rfl (Rp.mono A.ex r_middle)))) (eb_v rfl (Rp.mono A.ex r_number)))) hb73 (fun eb73 H74 e => ?_) (fun eb73 H74 e => ?_)
      · subst eb73
        replace hm := itt hm
        replace A := A.grow e
        replace e0 := e0.trans e
        obtain ⟨x_begin, hx, hm⟩ := bnd hm
        refine st_asg ((x_add (eb_v rfl (Rp.mono A.ex r_middle)) (eb_int (K := K)))).own hx A fun v_begin G75 H76 g e A r_begin => ?_
        replace r_one := Rp.mono g r_one
        replace r_number := Rp.mono g r_number
        replace r_end := Rp.mono g r_end
        replace r_middle := Rp.mono g r_middle
        replace gL62 := gL62.trans g
        replace e0 := e0.trans e
        obtain rfl := Option.some.inj hm
        exact ⟨_, _, _, _, rfl, e0, gL62, A, r_begin, r_end⟩
      · subst eb73
        replace hm := itf hm
        replace A := A.grow e
        replace e0 := e0.trans e
        obtain ⟨x_end, hx, hm⟩ := bnd hm
        refine st_asg ((eb_v rfl (Rp.mono A.ex r_middle))).own hx A fun v_end G77 H78 g e A r_end => ?_
        replace r_one := Rp.mono g r_one
        replace r_number := Rp.mono g r_number
        replace r_begin := Rp.mono g r_begin
        replace r_middle := Rp.mono g r_middle
        replace gL62 := gL62.trans g
        replace e0 := e0.trans e
        obtain rfl := Option.some.inj hm
        exact ⟨_, _, _, _, rfl, e0, gL62, A, r_begin, r_end⟩
    · obtain ⟨G68, k_middle, v_begin, v_end, rfl, e0, gL62, A, r_begin, r_end⟩ := hin
      replace A := A.grow e
      replace e0 := e0.trans e
      replace r_one := Rp.mono gL62 r_one
      replace r_number := Rp.mono gL62 r_number
      exact sr_b (eb_and (x_lt (eb_v rfl (Rp.mono A.ex r_begin)) (x_lenT (eb_v rfl (Rp.mono A.ex r_one)))) (x_le (x_fst (x_ixT (eb_v rfl (Rp.mono A.ex r_one)) (eb_v rfl (Rp.mono A.ex r_begin)))) (eb_v rfl (Rp.mono A.ex r_number)))) hm fun w H e r => q w H (e0.trans e) r
/-! size -/
def m_size (x_one : (Tl (Int × Int))) : Option Int := (o1 fSum (oComp (fun (y79 : (Int × Int)) => (some true)) (fun (y79 : (Int × Int)) => (o2 fAdd (o2 fSub (some y79.2) (some y79.1)) (some (1 : Int)))) (((some x_one)).map Tl.l)))
set_option maxHeartbeats 4000000 in
theorem ok_size {P : Program} {w : World} {K : Fg} {mg : Str → Option Value} {base : Heap} (T : Txt K mg) : FnOk P w K mg base CX0 1 T.a_size T.d_size ["one"] (PSb K (A1 K m_size)) := by
  refine T.F_size.ok sc_size (fun vs H Q E h => ?_) (fun cdv A0 outer s H vs Q E hr h => ?_)
  · obtain ⟨r, ⟨v_one, x_one, rfl, r_one, hm⟩, q⟩ := h
    rfl
  · obtain ⟨r_fn, ⟨v_one, x_one, rfl, r_one, hm⟩, q⟩ := h
    refine ⟨_, (pss_cons (ps_ret (pe_callB (cr_sum rfl) (by rfl) T.n_sum bb_sum (pa_cons (pe_lc (own := [("low", 1), ("high", 2)]) (g := (gTup K 2 (gCons (gName 1) (gCons (gName 2) gNil)))) rfl sc_size.nd (piT_K (K := K) rfl (pv 0)) (blkOk_by (N := ["one", "low", "high"]) (sc := defScope s_size) (by decide +kernel)) (fun _ _ _ _ _ => by exact (pg_tup rfl (pgs_cons (pg_name (i := 1) sc_size.nd rfl (by first | exact Or.inl rfl | exact Or.inr rfl)) (pgs_cons (pg_name (i := 2) sc_size.nd rfl (by first | exact Or.inl rfl | exact Or.inr rfl)) pgs_nil)))) (fun _ _ _ _ _ => by exact pts_nil) (fun _ _ _ _ _ => by exact (pe_op op_add (pe_op op_sub (pv 2) (pv 1)) pe_int))) pa_nil))) pss_nil), ?_⟩
    unfold m_size at hm
    obtain ⟨H0, e0, q⟩ := heapB q
    obtain ⟨G, A, r_one⟩ : exists G, At G H [] ∧ rp K G v_one x_one := ⟨H, At.nil H, r_one⟩
    exact sr_b (x_sum ((x_lc (i_tup (es_b (eb_v rfl (Rp.mono A.ex r_one)))) (tg_p tg_n tg_n) (bi_p (bi_n (by decide)) (bi_n (by decide))) (fun y79 σc Hc gh79 hb79 => by obtain ⟨_, ⟨c79v_low, c79r_low, rfl⟩, ⟨c79v_high, c79r_high, rfl⟩⟩ := hb79; exact t_yes) (fun y79 σc Hc gh79 hb79 => by obtain ⟨_, ⟨c79v_low, c79r_low, rfl⟩, ⟨c79v_high, c79r_high, rfl⟩⟩ := hb79; exact (x_add (x_sub (eb_v rfl c79r_high) (eb_v rfl c79r_low)) (eb_int (K := K)))))).b) hm fun w H e r => q w H (e0.trans e) r
/-! least -/
def m_least (x_one : (Tl (Int × Int))) : Option (Option Int) := (oIf (o1 fTruT (some x_one)) (((o1 fFst (o2 fIxT (some x_one) (some (0 : Int))))).map some) (some (none : (Option Int))))
set_option maxHeartbeats 4000000 in
theorem ok_least {P : Program} {w : World} {K : Fg} {mg : Str → Option Value} {base : Heap} (T : Txt K mg) : FnOk P w K mg base CX0 1 T.a_least T.d_least ["one"] (PSb K (A1 K m_least)) := by
  refine T.F_least.ok sc_least (fun vs H Q E h => ?_) (fun cdv A0 outer s H vs Q E hr h => ?_)
  · obtain ⟨r, ⟨v_one, x_one, rfl, r_one, hm⟩, q⟩ := h
    rfl
  · obtain ⟨r_fn, ⟨v_one, x_one, rfl, r_one, hm⟩, q⟩ := h
    refine ⟨_, (pss_cons (ps_ret (pe_ifExp (pt_truth (pv 0) (by intro _; rfl)) (pe_ix (ixT_K (K := K) rfl) (pe_ix (ixT_K (K := K) rfl) (pv 0) pe_int (fun _ _ => rfl)) pe_int (fun _ _ => rfl)) pe_non)) pss_nil), ?_⟩
    unfold m_least at hm
    obtain ⟨H0, e0, q⟩ := heapB q
    obtain ⟨G, A, r_one⟩ : exists G, At G H [] ∧ rp K G v_one x_one := ⟨H, At.nil H, r_one⟩
    exact sr_b (eb_if (t_truT (eb_v rfl (Rp.mono A.ex r_one))) (x_some (x_fst (x_ixT (eb_v rfl (Rp.mono A.ex r_one)) (eb_int (K := K))))) x_none) hm fun w H e r => q w H (e0.trans e) r
/-! _law_mixed -/
def m_law_mixed (x_law_cell : Int) (x_law_k : Int) : Option Int := ((o2 fMod (o2 fAdd (o2 fAdd (o2 fMul (some x_law_cell) (some (48271 : Int))) (o2 fMul (some (7919 : Int)) (some x_law_k))) (some (11 : Int))) (some (1000003 : Int)))).bind fun x_law_number => (o2 fMod (o2 fMul (o2 fMod (o2 fMul (some x_law_number) (some x_law_number)) (some (1000003 : Int))) (some x_law_number)) (some (1000003 : Int)))
set_option maxHeartbeats 4000000 in
theorem ok_law_mixed {P : Program} {w : World} {K : Fg} {mg : Str → Option Value} {base : Heap} (T : Txt K mg) : FnOk P w K mg base CX0 1 T.a_law_mixed T.d_law_mixed ["_law_cell", "_law_k"] (PSb K (A2 K m_law_mixed)) := by
  refine T.F_law_mixed.ok sc_law_mixed (fun vs H Q E h => ?_) (fun cdv A0 outer s H vs Q E hr h => ?_)
  · obtain ⟨r, ⟨v_law_cell, v_law_k, x_law_cell, x_law_k, rfl, r_law_cell, r_law_k, hm⟩, q⟩ := h
    rfl
  · obtain ⟨r_fn, ⟨v_law_cell, v_law_k, x_law_cell, x_law_k, rfl, r_law_cell, r_law_k, hm⟩, q⟩ := h
    refine ⟨_, (pss_cons (ps_set (i := 2) sc_law_mixed.nd rfl (by first | exact Or.inl rfl | exact Or.inr rfl) (pe_op op_mod (pe_op op_add (pe_op op_add (pe_op op_mul (pv 0) pe_int) (pe_op op_mul pe_int (pv 1))) pe_int) pe_int)) (pss_cons (ps_ret (pe_op op_mod (pe_op op_mul (pe_op op_mod (pe_op op_mul (pv 2) (pv 2)) pe_int) (pv 2)) pe_int)) pss_nil)), ?_⟩
    unfold m_law_mixed at hm
    obtain ⟨H0, e0, q⟩ := heapB q
    obtain ⟨G, A, r_law_cell, r_law_k⟩ : exists G, At G H [] ∧ rp K G v_law_cell x_law_cell ∧ rp K G v_law_k x_law_k := ⟨H, At.nil H, r_law_cell, r_law_k⟩
    obtain ⟨x_law_number, hx, hm⟩ := bnd hm
    refine st_asg ((x_mod (x_add (x_add (x_mul (eb_v rfl (Rp.mono A.ex r_law_cell)) (eb_int (K := K))) (x_mul (eb_int (K := K)) (eb_v rfl (Rp.mono A.ex r_law_k)))) (eb_int (K := K))) (eb_int (K := K)))).own hx A fun v_law_number G80 H81 g e A r_law_number => ?_
    replace r_law_cell := Rp.mono g r_law_cell
    replace r_law_k := Rp.mono g r_law_k
    replace e0 := e0.trans e
    exact sr_b (x_mod (x_mul (x_mod (x_mul (eb_v rfl (Rp.mono A.ex r_law_number)) (eb_v rfl (Rp.mono A.ex r_law_number))) (eb_int (K := K))) (eb_v rfl (Rp.mono A.ex r_law_number))) (eb_int (K := K))) hm fun w H e r => q w H (e0.trans e) r
/-! _law_great -/
def m_law_great (x_law_cell : Int) (x_law_k : Int) : Option Int := (o2 fMod (o2 fAdd (o2 fMul (o2 m_law_mixed (some x_law_cell) (some x_law_k)) (some (1000003 : Int))) (o2 m_law_mixed (some x_law_cell) (o2 fAdd (some x_law_k) (some (500 : Int))))) (o2 fPow (some (10 : Int)) (some (12 : Int))))
set_option maxHeartbeats 4000000 in
theorem ok_law_great {P : Program} {w : World} {K : Fg} {mg : Str → Option Value} {base : Heap} (T : Txt K mg) : FnOk P w K mg base CX0 2 T.a_law_great T.d_law_great ["_law_cell", "_law_k"] (PSb K (A2 K m_law_great)) := by
  refine T.F_law_great.ok sc_law_great (fun vs H Q E h => ?_) (fun cdv A0 outer s H vs Q E hr h => ?_)
  · obtain ⟨r, ⟨v_law_cell, v_law_k, x_law_cell, x_law_k, rfl, r_law_cell, r_law_k, hm⟩, q⟩ := h
    rfl
  · obtain ⟨r_fn, ⟨v_law_cell, v_law_k, x_law_cell, x_law_k, rfl, r_law_cell, r_law_k, hm⟩, q⟩ := h
    refine ⟨_, (pss_cons (ps_ret (pe_op op_mod (pe_op op_add (pe_op op_mul (pe_call (ok_law_mixed T) (hr.mono (by decide)) (by rfl) T.g_law_mixed T.F_law_mixed.kp T.b_law_mixed .nil pass0 (pa_cons (pv 0) (pa_cons (pv 1) pa_nil))) pe_int) (pe_call (ok_law_mixed T) (hr.mono (by decide)) (by rfl) T.g_law_mixed T.F_law_mixed.kp T.b_law_mixed .nil pass0 (pa_cons (pv 0) (pa_cons (pe_op op_add (pv 1) pe_int) pa_nil)))) (pe_op op_pow pe_int pe_int))) pss_nil), ?_⟩
    unfold m_law_great at hm
    obtain ⟨H0, e0, q⟩ := heapB q
    obtain ⟨G, A, r_law_cell, r_law_k⟩ : exists G, At G H [] ∧ rp K G v_law_cell x_law_cell ∧ rp K G v_law_k x_law_k := ⟨H, At.nil H, r_law_cell, r_law_k⟩
    exact sr_b (x_mod (x_add (x_mul (eb_call (em2 (eb_v rfl (Rp.mono A.ex r_law_cell)) (eb_v rfl (Rp.mono A.ex r_law_k)))) (eb_int (K := K))) (eb_call (em2 (eb_v rfl (Rp.mono A.ex r_law_cell)) (x_add (eb_v rfl (Rp.mono A.ex r_law_k)) (eb_int (K := K)))))) (x_pow (eb_int (K := K)) (eb_int (K := K)))) hm fun w H e r => q w H (e0.trans e) r
/-! _law_alone -/
def m_law_alone (x_law_e : (Dy ⊕ Xn)) (x_law_at : Int) : Option Bool := ((o1 szOk (o2 fCons (o1 (fIsV ["BadSet"] (fun c => decide (c = "BadSet"))) (some x_law_e)) (o2 fCons (o1 (fIsV ["BadSet"] (fun c => decide (c = "BadValue"))) (some x_law_e)) (o2 fCons (o1 (fIsV ["BadSet"] (fun c => decide (c = "BadText"))) (some x_law_e)) (o2 fCons (o1 (fIsV ["BadSet"] (fun c => decide (c = "BadAsking"))) (some x_law_e)) (some ([] : List Bool)))))))).bind fun x_law_some => ((o2 fCat (some x_law_some) (o1 szOk (o2 fCons (o1 (fIsV ["BadSet"] (fun c => decide (c = "NoGate"))) (some x_law_e)) (o2 fCons (o1 (fIsV ["BadSet"] (fun c => decide (c = "NoRule"))) (some x_law_e)) (o2 fCons (o1 (fIsV ["BadSet"] (fun c => decide (c = "TooMuch"))) (some x_law_e)) (o2 fCons (o1 (fIsV ["BadSet"] (fun c => decide (c = "BadWish"))) (some x_law_e)) (some ([] : List Bool))))))))).bind fun x_law_some => ((o2 fCat (some x_law_some) (o1 szOk (o2 fCons (o1 (fIsV ["BadSet"] (fun c => decide (c = "NoName"))) (some x_law_e)) (o2 fCons (o1 (fIsV ["BadSet"] (fun c => decide (c = "Ring"))) (some x_law_e)) (o2 fCons (o1 (fIsV ["BadSet"] (fun c => decide (c = "NoVersion"))) (some x_law_e)) (o2 fCons (o1 (fIsV ["BadSet"] (fun c => decide (c = "InUse"))) (some x_law_e)) (some ([] : List Bool))))))))).bind fun x_law_some => (oAnd (o1 (fIsV ["BadSet"] (fun _ => true)) (some x_law_e)) (oAnd (o1 (fIsV ["BadSet"] (fun _ => true)) (some x_law_e)) (oAnd (o2 fEq (o2 fCntB (some x_law_some) (some true)) (some (1 : Int))) (o2 ix (some x_law_some) (some x_law_at)))))
set_option maxHeartbeats 4000000 in
theorem ok_law_alone {P : Program} {w : World} {K : Fg} {mg : Str → Option Value} {base : Heap} (T : Txt K mg) : FnOk P w K mg base CX0 1 T.a_law_alone T.d_law_alone ["_law_e", "_law_at"] (PSb K (A2 K m_law_alone)) := by
  refine T.F_law_alone.ok sc_law_alone (fun vs H Q E h => ?_) (fun cdv A0 outer s H vs Q E hr h => ?_)
  · obtain ⟨r, ⟨v_law_e, v_law_at, x_law_e, x_law_at, rfl, r_law_e, r_law_at, hm⟩, q⟩ := h
    rfl
  · obtain ⟨r_fn, ⟨v_law_e, v_law_at, x_law_e, x_law_at, rfl, r_law_e, r_law_at, hm⟩, q⟩ := h
    refine ⟨_, (pss_cons (ps_set (i := 2) sc_law_alone.nd rfl (by first | exact Or.inl rfl | exact Or.inr rfl) (pe_lst (pa_cons (pe_callB (isV_K (K := K) rfl) (by rfl) T.n_isinstance bb_isinstance (pa_cons (pv 0) (pa_cons (pe_glob (v := .ref T.c_BadSet) (by rfl) T.g_BadSet rfl) pa_nil))) (pa_cons (pe_callB (isV_K (K := K) rfl) (by rfl) T.n_isinstance bb_isinstance (pa_cons (pv 0) (pa_cons (pe_glob (v := .ref T.c_BadValue) (by rfl) T.g_BadValue rfl) pa_nil))) (pa_cons (pe_callB (isV_K (K := K) rfl) (by rfl) T.n_isinstance bb_isinstance (pa_cons (pv 0) (pa_cons (pe_glob (v := .ref T.c_BadText) (by rfl) T.g_BadText rfl) pa_nil))) (pa_cons (pe_callB (isV_K (K := K) rfl) (by rfl) T.n_isinstance bb_isinstance (pa_cons (pv 0) (pa_cons (pe_glob (v := .ref T.c_BadAsking) (by rfl) T.g_BadAsking rfl) pa_nil))) pa_nil)))))) (pss_cons (ps_set (i := 2) sc_law_alone.nd rfl (by first | exact Or.inl rfl | exact Or.inr rfl) (pe_op op_cat (pv 2) (pe_lst (pa_cons (pe_callB (isV_K (K := K) rfl) (by rfl) T.n_isinstance bb_isinstance (pa_cons (pv 0) (pa_cons (pe_glob (v := .ref T.c_NoGate) (by rfl) T.g_NoGate rfl) pa_nil))) (pa_cons (pe_callB (isV_K (K := K) rfl) (by rfl) T.n_isinstance bb_isinstance (pa_cons (pv 0) (pa_cons (pe_glob (v := .ref T.c_NoRule) (by rfl) T.g_NoRule rfl) pa_nil))) (pa_cons (pe_callB (isV_K (K := K) rfl) (by rfl) T.n_isinstance bb_isinstance (pa_cons (pv 0) (pa_cons (pe_glob (v := .ref T.c_TooMuch) (by rfl) T.g_TooMuch rfl) pa_nil))) (pa_cons (pe_callB (isV_K (K := K) rfl) (by rfl) T.n_isinstance bb_isinstance (pa_cons (pv 0) (pa_cons (pe_glob (v := .ref T.c_BadWish) (by rfl) T.g_BadWish rfl) pa_nil))) pa_nil))))))) (pss_cons (ps_set (i := 2) sc_law_alone.nd rfl (by first | exact Or.inl rfl | exact Or.inr rfl) (pe_op op_cat (pv 2) (pe_lst (pa_cons (pe_callB (isV_K (K := K) rfl) (by rfl) T.n_isinstance bb_isinstance (pa_cons (pv 0) (pa_cons (pe_glob (v := .ref T.c_NoName) (by rfl) T.g_NoName rfl) pa_nil))) (pa_cons (pe_callB (isV_K (K := K) rfl) (by rfl) T.n_isinstance bb_isinstance (pa_cons (pv 0) (pa_cons (pe_glob (v := .ref T.c_Ring) (by rfl) T.g_Ring rfl) pa_nil))) (pa_cons (pe_callB (isV_K (K := K) rfl) (by rfl) T.n_isinstance bb_isinstance (pa_cons (pv 0) (pa_cons (pe_glob (v := .ref T.c_NoVersion) (by rfl) T.g_NoVersion rfl) pa_nil))) (pa_cons (pe_callB (isV_K (K := K) rfl) (by rfl) T.n_isinstance bb_isinstance (pa_cons (pv 0) (pa_cons (pe_glob (v := .ref T.c_InUse) (by rfl) T.g_InUse rfl) pa_nil))) pa_nil))))))) (pss_cons (ps_ret (pe_and (pe_callB (isV_K (K := K) rfl) (by rfl) T.n_isinstance bb_isinstance (pa_cons (pv 0) (pa_cons (pe_glob (v := .ref T.c_GateError) (by rfl) T.g_GateError rfl) pa_nil))) (pe_and (pe_callB (isV_K (K := K) rfl) (by rfl) T.n_isinstance bb_isinstance (pa_cons (pv 0) (pa_cons (pe_bltn (v := .ty "ValueError") (by rfl) T.n_ValueError bb_ValueError rfl) pa_nil))) (pe_and (pe_cmpR (opEq_K (K := K) rfl hr.units) (pe_bm PySem.F.plainAttrs_list PySem.F.slot_list_count PySem.F.type_list_count (mtcB_K (K := K) rfl) (pv 2) (pa_cons pe_bl pa_nil)) pe_int (nomark _)) (pe_one (pe_ix (ixL_K (K := K) rfl) (pv 2) (pv 1) (fun _ _ => rfl))))))) pss_nil)))), ?_⟩
    unfold m_law_alone at hm
    obtain ⟨H0, e0, q⟩ := heapB q
    obtain ⟨G, A, r_law_e, r_law_at⟩ : exists G, At G H [] ∧ rp K G v_law_e x_law_e ∧ rp K G v_law_at x_law_at := ⟨H, At.nil H, r_law_e, r_law_at⟩
    obtain ⟨x_law_some, hx, hm⟩ := bnd hm
    refine st_asg (eo_lst (lo_cons ((x_isV (rs := ["BadSet"]) (b := (fun c => decide (c = "BadSet"))) (cv := .ref T.c_BadSet) (uu := .ref T.c_BadSet) (fun _ h => h) T.ki_BadSet (eb_v rfl (Rp.mono A.ex r_law_e)))).own (lo_cons ((x_isV (rs := ["BadSet"]) (b := (fun c => decide (c = "BadValue"))) (cv := .ref T.c_BadValue) (uu := .ref T.c_BadValue) (fun _ h => h) T.ki_BadValue (eb_v rfl (Rp.mono A.ex r_law_e)))).own (lo_cons ((x_isV (rs := ["BadSet"]) (b := (fun c => decide (c = "BadText"))) (cv := .ref T.c_BadText) (uu := .ref T.c_BadText) (fun _ h => h) T.ki_BadText (eb_v rfl (Rp.mono A.ex r_law_e)))).own (lo_cons ((x_isV (rs := ["BadSet"]) (b := (fun c => decide (c = "BadAsking"))) (cv := .ref T.c_BadAsking) (uu := .ref T.c_BadAsking) (fun _ h => h) T.ki_BadAsking (eb_v rfl (Rp.mono A.ex r_law_e)))).own lo_nil))))) hx A fun v_law_some G82 H83 g e A r_law_some => ?_
    replace r_law_e := Rp.mono g r_law_e
    replace r_law_at := Rp.mono g r_law_at
    replace e0 := e0.trans e
    obtain ⟨x_law_some, hx, hm⟩ := bnd hm
    refine st_asg (eo_cat (eo_v rfl r_law_some) (eo_lst (lo_cons ((x_isV (rs := ["BadSet"]) (b := (fun c => decide (c = "NoGate"))) (cv := .ref T.c_NoGate) (uu := .ref T.c_NoGate) (fun _ h => h) T.ki_NoGate (eb_v rfl (Rp.mono A.ex r_law_e)))).own (lo_cons ((x_isV (rs := ["BadSet"]) (b := (fun c => decide (c = "NoRule"))) (cv := .ref T.c_NoRule) (uu := .ref T.c_NoRule) (fun _ h => h) T.ki_NoRule (eb_v rfl (Rp.mono A.ex r_law_e)))).own (lo_cons ((x_isV (rs := ["BadSet"]) (b := (fun c => decide (c = "TooMuch"))) (cv := .ref T.c_TooMuch) (uu := .ref T.c_TooMuch) (fun _ h => h) T.ki_TooMuch (eb_v rfl (Rp.mono A.ex r_law_e)))).own (lo_cons ((x_isV (rs := ["BadSet"]) (b := (fun c => decide (c = "BadWish"))) (cv := .ref T.c_BadWish) (uu := .ref T.c_BadWish) (fun _ h => h) T.ki_BadWish (eb_v rfl (Rp.mono A.ex r_law_e)))).own lo_nil)))))) hx A fun v_law_some G84 H85 g e A r_law_some => ?_
    replace r_law_e := Rp.mono g r_law_e
    replace r_law_at := Rp.mono g r_law_at
    replace e0 := e0.trans e
    obtain ⟨x_law_some, hx, hm⟩ := bnd hm
    refine st_asg (eo_cat (eo_v rfl r_law_some) (eo_lst (lo_cons ((x_isV (rs := ["BadSet"]) (b := (fun c => decide (c = "NoName"))) (cv := .ref T.c_NoName) (uu := .ref T.c_NoName) (fun _ h => h) T.ki_NoName (eb_v rfl (Rp.mono A.ex r_law_e)))).own (lo_cons ((x_isV (rs := ["BadSet"]) (b := (fun c => decide (c = "Ring"))) (cv := .ref T.c_Ring) (uu := .ref T.c_Ring) (fun _ h => h) T.ki_Ring (eb_v rfl (Rp.mono A.ex r_law_e)))).own (lo_cons ((x_isV (rs := ["BadSet"]) (b := (fun c => decide (c = "NoVersion"))) (cv := .ref T.c_NoVersion) (uu := .ref T.c_NoVersion) (fun _ h => h) T.ki_NoVersion (eb_v rfl (Rp.mono A.ex r_law_e)))).own (lo_cons ((x_isV (rs := ["BadSet"]) (b := (fun c => decide (c = "InUse"))) (cv := .ref T.c_InUse) (uu := .ref T.c_InUse) (fun _ h => h) T.ki_InUse (eb_v rfl (Rp.mono A.ex r_law_e)))).own lo_nil)))))) hx A fun v_law_some G86 H87 g e A r_law_some => ?_
    replace r_law_e := Rp.mono g r_law_e
    replace r_law_at := Rp.mono g r_law_at
    replace e0 := e0.trans e
    exact sr_b (eb_and (x_isV (rs := ["BadSet"]) (b := (fun _ => true)) (cv := .ref T.c_GateError) (uu := .ref T.c_GateError) (fun _ h => h) T.ki_GateError (eb_v rfl (Rp.mono A.ex r_law_e))) (eb_and (x_isV (rs := ["BadSet"]) (b := (fun _ => true)) (cv := .ty "ValueError") (uu := .type "ValueError") (fun _ h => h) T.ki_ValueError (eb_v rfl (Rp.mono A.ex r_law_e))) (eb_and (x_eq (by decide) (x_cntB (eb_v rfl (Rp.mono A.ex r_law_some)) (eb_bl (K := K))) (eb_int (K := K))) (x_ixL (eb_v rfl (Rp.mono A.ex r_law_some)) (eb_v rfl (Rp.mono A.ex r_law_at)))))) hm fun w H e r => q w H (e0.trans e) r
/-! _law_set -/
def m_law_set_l1 (s91 : (List (Int × Int)) × Int) (x91 : (Int × Int)) : Option ((List (Int × Int)) × Int) := ((o2 ix (o1 szOk (o2 fCons (some (0 : Int)) (o2 fCons (some (1 : Int)) (o2 fCons (o2 fMod (o2 m_law_great (some x91.2) (o2 fMul (some (2 : Int)) (some x91.1))) (o2 fPow (some (10 : Int)) (some (9 : Int)))) (some ([] : List Int)))))) (o2 fMod (o2 m_law_mixed (some x91.2) (some x91.1)) (some (3 : Int))))).bind fun x_law_gap => ((o2 ix (o1 szOk (o2 fCons (some (0 : Int)) (o2 fCons (some (1 : Int)) (o2 fCons (o2 fMod (o2 m_law_great (some x91.2) (o2 fAdd (o2 fMul (some (2 : Int)) (some x91.1)) (some (1 : Int)))) (o2 fPow (some (10 : Int)) (some (9 : Int)))) (some ([] : List Int)))))) (o2 fMod (o2 fDiv (o2 m_law_mixed (some x91.2) (some x91.1)) (some (3 : Int))) (some (3 : Int))))).bind fun x_law_wide => ((o2 fPair (o2 fAdd (some s91.2) (some x_law_gap)) (o2 fAdd (o2 fAdd (some s91.2) (some x_law_gap)) (some x_law_wide)))).bind fun y101 => (fApp s91.1 y101).bind fun x_law_found => ((o2 fAdd (o2 fAdd (o2 fAdd (some s91.2) (some x_law_gap)) (some x_law_wide)) (some (2 : Int)))).bind fun x_law_begin => some (x_law_found, x_law_begin)
def m_law_set (x_law_script : Scr) : Option (Tl (Int × Int)) := ((some (0 : Int))).bind fun x_law_begin => ((((o3 fCutS (some x_law_script) (some none) (((some (60 : Int))).map some))).map enum)).bind fun xs91 => (foldO m_law_set_l1 (([] : List (Int × Int)), x_law_begin) xs91).bind fun w91 => (o1 fTuple (some w91.1))
set_option maxHeartbeats 4000000 in
theorem ok_law_set {P : Program} {w : World} {K : Fg} {mg : Str → Option Value} {base : Heap} (T : Txt K mg) : FnOk P w K mg base CX0 3 T.a_law_set T.d_law_set ["_law_script"] (PSb K (A1 K m_law_set)) := by
  refine T.F_law_set.ok sc_law_set (fun vs H Q E h => ?_) (fun cdv A0 outer s H vs Q E hr h => ?_)
  · obtain ⟨r, ⟨v_law_script, x_law_script, rfl, r_law_script, hm⟩, q⟩ := h
    rfl
  · obtain ⟨r_fn, ⟨v_law_script, x_law_script, rfl, r_law_script, hm⟩, q⟩ := h
    refine ⟨_, (pss_cons (ps_set (i := 1) sc_law_set.nd rfl (by first | exact Or.inl rfl | exact Or.inr rfl) (pe_lst pa_nil)) (pss_cons (ps_set (i := 2) sc_law_set.nd rfl (by first | exact Or.inl rfl | exact Or.inr rfl) pe_int) (pss_cons (ps_for PassesOwn.never rfl (pi_enum (by rfl) T.n_enumerate (pa_cons (pe_slice (slL_K (K := K) rfl) (pv 0) po_none (po_some pe_int)) pa_nil)) (pg_tup rfl (pgs_cons (pg_name (i := 3) sc_law_set.nd rfl (by first | exact Or.inl rfl | exact Or.inr rfl)) (pgs_cons (pg_name (i := 4) sc_law_set.nd rfl (by first | exact Or.inl rfl | exact Or.inr rfl)) pgs_nil))) (pss_cons (ps_set (i := 5) sc_law_set.nd rfl (by first | exact Or.inl rfl | exact Or.inr rfl) (pe_ix (ixL_K (K := K) rfl) (pe_lst (pa_cons pe_int (pa_cons pe_int (pa_cons (pe_op op_mod (pe_call (ok_law_great T) (hr.mono (by decide)) (by rfl) T.g_law_great T.F_law_great.kp T.b_law_great .nil pass0 (pa_cons (pv 4) (pa_cons (pe_op op_mul pe_int (pv 3)) pa_nil))) (pe_op op_pow pe_int pe_int)) pa_nil)))) (pe_op op_mod (pe_call (ok_law_mixed T) (hr.mono (by decide)) (by rfl) T.g_law_mixed T.F_law_mixed.kp T.b_law_mixed .nil pass0 (pa_cons (pv 4) (pa_cons (pv 3) pa_nil))) pe_int) (fun _ _ => rfl))) (pss_cons (ps_set (i := 6) sc_law_set.nd rfl (by first | exact Or.inl rfl | exact Or.inr rfl) (pe_ix (ixL_K (K := K) rfl) (pe_lst (pa_cons pe_int (pa_cons pe_int (pa_cons (pe_op op_mod (pe_call (ok_law_great T) (hr.mono (by decide)) (by rfl) T.g_law_great T.F_law_great.kp T.b_law_great .nil pass0 (pa_cons (pv 4) (pa_cons (pe_op op_add (pe_op op_mul pe_int (pv 3)) pe_int) pa_nil))) (pe_op op_pow pe_int pe_int)) pa_nil)))) (pe_op op_mod (pe_op op_fdiv (pe_call (ok_law_mixed T) (hr.mono (by decide)) (by rfl) T.g_law_mixed T.F_law_mixed.kp T.b_law_mixed .nil pass0 (pa_cons (pv 4) (pa_cons (pv 3) pa_nil))) pe_int) pe_int) (fun _ _ => rfl))) (pss_cons (ps_expr (pe_bm PySem.F.plainAttrs_list PySem.F.slot_list_append PySem.F.type_list_append mt_append (pv 1) (pa_cons (pe_tup (pa_cons (pe_op op_add (pv 2) (pv 5)) (pa_cons (pe_op op_add (pe_op op_add (pv 2) (pv 5)) (pv 6)) pa_nil))) pa_nil))) (pss_cons (ps_set (i := 2) sc_law_set.nd rfl (by first | exact Or.inl rfl | exact Or.inr rfl) (pe_op op_add (pe_op op_add (pe_op op_add (pv 2) (pv 5)) (pv 6)) pe_int)) pss_nil))))) (pss_cons (ps_ret (pe_callTy (tof_K (K := K) rfl) (by rfl) T.n_tuple bb_tuple (pa_cons (pv 1) pa_nil))) pss_nil)))), ?_⟩
    unfold m_law_set at hm
    obtain ⟨H0, e0, q⟩ := heapB q
    obtain ⟨G, A, r_law_script⟩ : exists G, At G H [] ∧ rp K G v_law_script x_law_script := ⟨H, At.nil H, r_law_script⟩
    refine st_new A fun p_law_found hp_law_found A => ?_
    have ne0_law_found := e0.back hp_law_found
    replace e0 := e0.trans (Gx.new (o := HO.lst []) hp_law_found)
    have al_law_found : Al (rp K G) ([] : List V) ([] : List (Int × Int)) := trivial
    generalize upd _ p_law_found (.lst []) = H88 at A e0 ⊢
    obtain ⟨x_law_begin, hx, hm⟩ := bnd hm
    refine st_asg ((eb_int (K := K))).own hx A fun v_law_begin G89 H90 g e A r_law_begin => ?_
    replace r_law_script := Rp.mono g r_law_script
    replace al_law_found := al_law_found.mono fun _ _ => Rp.mono g
    replace e0 := e0.trans e
    obtain ⟨xs91, hx91, hm⟩ := bnd hm
    obtain ⟨w91, hl91, hm⟩ := bnd hm
    refine st_for (M := [p_law_found]) (i_enum (es_n (x_cutS (eb_v rfl (Rp.mono A.ex r_law_script)) ep_none (ep_some (eb_int (K := K)))) (A.hMu (by simp)))) hx91 fun J91 HL91 e wk91 => ?_
    replace A := A.grow e
    replace e0 := e0.trans e
    have eM91 : Gx (mns HL91 [p_law_found]) HL91 := mns_ex
    have gL91 : Gx G89 G89 := Gx.rfl
    have neM91_law_found : (mns HL91 [p_law_found]) p_law_found = none := mns_in (by simp)
    refine fold_run wk91 hl91 (tg_p tg_n tg_n) (fun (s91 : (List (Int × Int)) × Int) (σ : L2.St) (H : Hp) => exists (Gi : Hp) (k_law_k : Option V) (k_law_cell : Option V) (k_law_gap : Option V) (k_law_wide : Option V) (vs_law_found : List V) (v_law_begin : V), σ = [some v_law_script, some (.ref p_law_found), some v_law_begin, k_law_k, k_law_cell, k_law_gap, k_law_wide] ∧ Gx H0 H ∧ Gx (mns HL91 [p_law_found]) H ∧ Gx G89 Gi ∧ At Gi H [(p_law_found, HO.lst vs_law_found)] ∧ Al (rp K Gi) vs_law_found s91.1 ∧ rp K Gi v_law_begin s91.2) (fun s σ H h => ?_) ?_ (fun s91 x91 o91 σ H95 H93 σ2 hxm hf hin e hb => ?_) (fun σ H108 hin => ?_)
    · obtain ⟨Gi, k_law_k, k_law_cell, k_law_gap, k_law_wide, vs_law_found, v_law_begin, rfl, e0, eM91, gL91, A, al_law_found, r_law_begin⟩ := h
      exact eM91
    · exact ⟨_, _, _, _, _, _, _, rfl, e0, eM91, gL91, A, al_law_found, r_law_begin⟩
    · obtain ⟨G92, k_law_k, k_law_cell, k_law_gap, k_law_wide, vs_law_found, v_law_begin, rfl, e0, eM91, gL91, A, al_law_found, r_law_begin⟩ := hin
      obtain ⟨_, ⟨v_law_k, r_law_k, rfl⟩, ⟨v_law_cell, r_law_cell, rfl⟩⟩ := hb
      replace A := A.grow e
      replace e0 := e0.trans e
      replace eM91 := eM91.trans e
      replace r_law_script := Rp.mono gL91 r_law_script
      replace r_law_k := Im.im A.tx r_law_k
      replace r_law_cell := Im.im A.tx r_law_cell
      have g := A.gh
      replace A := A.hid
      replace r_law_script := Rp.mono g r_law_script
      replace al_law_found := al_law_found.mono fun _ _ => Rp.mono g
      replace r_law_begin := Rp.mono g r_law_begin
      replace gL91 := gL91.trans g
      generalize hid _ _ = G96 at *
      have hm := hf
      unfold m_law_set_l1 at hm
      obtain ⟨x_law_gap, hx, hm⟩ := bnd hm
      refine st_asg ((x_ixL ((x_lst (l_cons (eb_int (K := K)) (l_cons (eb_int (K := K)) (l_cons (x_mod (eb_call (em2 (eb_v rfl (Rp.mono A.ex r_law_cell)) (x_mul (eb_int (K := K)) (eb_v rfl (Rp.mono A.ex r_law_k))))) (x_pow (eb_int (K := K)) (eb_int (K := K)))) (l_nil (K := K))))))).b (x_mod (eb_call (em2 (eb_v rfl (Rp.mono A.ex r_law_cell)) (eb_v rfl (Rp.mono A.ex r_law_k)))) (eb_int (K := K))))).own hx A fun v_law_gap G97 H98 g e A r_law_gap => ?_
      replace r_law_script := Rp.mono g r_law_script
      replace al_law_found := al_law_found.mono fun _ _ => Rp.mono g
      replace r_law_begin := Rp.mono g r_law_begin
      replace r_law_k := Rp.mono g r_law_k
      replace r_law_cell := Rp.mono g r_law_cell
      replace gL91 := gL91.trans g
      replace e0 := e0.trans e
      replace eM91 := eM91.trans e
      obtain ⟨x_law_wide, hx, hm⟩ := bnd hm
      refine st_asg ((x_ixL ((x_lst (l_cons (eb_int (K := K)) (l_cons (eb_int (K := K)) (l_cons (x_mod (eb_call (em2 (eb_v rfl (Rp.mono A.ex r_law_cell)) (x_add (x_mul (eb_int (K := K)) (eb_v rfl (Rp.mono A.ex r_law_k))) (eb_int (K := K))))) (x_pow (eb_int (K := K)) (eb_int (K := K)))) (l_nil (K := K))))))).b (x_mod (x_div (eb_call (em2 (eb_v rfl (Rp.mono A.ex r_law_cell)) (eb_v rfl (Rp.mono A.ex r_law_k)))) (eb_int (K := K))) (eb_int (K := K))))).own hx A fun v_law_wide G99 H100 g e A r_law_wide => ?_
      replace r_law_script := Rp.mono g r_law_script
      replace al_law_found := al_law_found.mono fun _ _ => Rp.mono g
      replace r_law_begin := Rp.mono g r_law_begin
      replace r_law_k := Rp.mono g r_law_k
      replace r_law_cell := Rp.mono g r_law_cell
      replace r_law_gap := Rp.mono g r_law_gap
      replace gL91 := gL91.trans g
      replace e0 := e0.trans e
      replace eM91 := eM91.trans e
      obtain ⟨y101, hy101, hm⟩ := bnd hm
      obtain ⟨x_law_found, hd, hm⟩ := bnd hm
      replace hd := fApps hd
      refine st_app (L1 := []) (slot_ref rfl) ((x_pair (x_add (eb_v rfl (Rp.mono A.ex r_law_begin)) (eb_v rfl (Rp.mono A.ex r_law_gap))) (x_add (x_add (eb_v rfl (Rp.mono A.ex r_law_begin)) (eb_v rfl (Rp.mono A.ex r_law_gap))) (eb_v rfl (Rp.mono A.ex r_law_wide))))).own hy101 A (by rw [al_law_found.len]; exact hd.2) fun v_y101 G102 H103 g e A r_y101 => ?_
      replace r_law_script := Rp.mono g r_law_script
      replace al_law_found := al_law_found.mono fun _ _ => Rp.mono g
      replace r_law_begin := Rp.mono g r_law_begin
      replace r_law_k := Rp.mono g r_law_k
      replace r_law_cell := Rp.mono g r_law_cell
      replace r_law_gap := Rp.mono g r_law_gap
      replace r_law_wide := Rp.mono g r_law_wide
      replace gL91 := gL91.trans g
      replace e0 := e0.trans e
      replace eM91 := eM91.trans e
      replace al_law_found := al_law_found.app (Al.one r_y101)
      rw [← hd.1] at al_law_found
      replace e0 := Gx.mutA e0 ne0_law_found A
      replace eM91 := Gx.mutA eM91 neM91_law_found A
      generalize upd _ p_law_found (.lst _) = H104 at A e0 eM91 ⊢
      obtain ⟨x_law_begin, hx, hm⟩ := bnd hm
      refine st_asg ((x_add (x_add (x_add (eb_v rfl (Rp.mono A.ex r_law_begin)) (eb_v rfl (Rp.mono A.ex r_law_gap))) (eb_v rfl (Rp.mono A.ex r_law_wide))) (eb_int (K := K)))).own hx A fun v_law_begin G105 H106 g e A r_law_begin => ?_
      replace r_law_script := Rp.mono g r_law_script
      replace al_law_found := al_law_found.mono fun _ _ => Rp.mono g
      replace r_law_k := Rp.mono g r_law_k
      replace r_law_cell := Rp.mono g r_law_cell
      replace r_law_gap := Rp.mono g r_law_gap
      replace r_law_wide := Rp.mono g r_law_wide
      replace gL91 := gL91.trans g
      replace e0 := e0.trans e
      replace eM91 := eM91.trans e
      obtain rfl := Option.some.inj hm
      exact ⟨_, _, _, _, _, _, _, rfl, e0, eM91, gL91, A, al_law_found, r_law_begin⟩
    · obtain ⟨G107, k_law_k, k_law_cell, k_law_gap, k_law_wide, vs_law_found, v_law_begin, rfl, e0, eM91, gL91, A, al_law_found, r_law_begin⟩ := hin
      replace r_law_script := Rp.mono gL91 r_law_script
      exact sr_b (x_tuple (eb_v rfl (mv_rp A (List.Mem.head _) al_law_found))) hm fun w H e r => q w H (e0.trans e) r
/-! _law_odd -/
def m_law_odd (x_law_low : Int) (x_law_high : Int) (x_law_most : Int) : Option (List Dy) := ((o1 szOk (o2 fCons (((some ())).map (ToY.to : Unit -> Dy)) (o2 fCons (((some (5 : Int))).map (ToY.to : Int -> Dy)) (o2 fCons (((some true)).map (ToY.to : Bool -> Dy)) (o2 fCons (((some (Str.ofString "ab"))).map (ToY.to : Str -> Dy)) (o2 fCons (some Dy.dct) (o2 fCons (((o1 szOk (o2 fCons (((some x_law_low)).map (ToY.to : Int -> Dy)) (o2 fCons (((some x_law_high)).map (ToY.to : Int -> Dy)) (some ([] : List Dy)))))).map (ToY.to : (List Dy) -> Dy)) (o2 fCons (((o1 fTup (o2 fCons (((some x_law_low)).map (ToY.to : Int -> Dy)) (some ([] : List Dy))))).map (ToY.to : (Tl Dy) -> Dy)) (o2 fCons (((o1 fTup (o2 fCons (((some x_law_low)).map (ToY.to : Int -> Dy)) (o2 fCons (((some x_law_high)).map (ToY.to : Int -> Dy)) (o2 fCons (((some x_law_high)).map (ToY.to : Int -> Dy)) (some ([] : List Dy))))))).map (ToY.to : (Tl Dy) -> Dy)) (o2 fCons (((o1 fTup (o2 fCons (((some ())).map (ToY.to : Unit -> Dy)) (o2 fCons (((some x_law_high)).map (ToY.to : Int -> Dy)) (some ([] : List Dy)))))).map (ToY.to : (Tl Dy) -> Dy)) (o2 fCons (((o1 fTup (o2 fCons (((some x_law_low)).map (ToY.to : Int -> Dy)) (o2 fCons (((some ())).map (ToY.to : Unit -> Dy)) (some ([] : List Dy)))))).map (ToY.to : (Tl Dy) -> Dy)) (o2 fCons (((o1 fTup (o2 fCons (((some true)).map (ToY.to : Bool -> Dy)) (o2 fCons (((some x_law_most)).map (ToY.to : Int -> Dy)) (some ([] : List Dy)))))).map (ToY.to : (Tl Dy) -> Dy)) (some ([] : List Dy))))))))))))))).bind fun x_law_some => (o2 fCat (some x_law_some) (o1 szOk (o2 fCons (((o1 fTup (o2 fCons (((some x_law_low)).map (ToY.to : Int -> Dy)) (o2 fCons (((some false)).map (ToY.to : Bool -> Dy)) (some ([] : List Dy)))))).map (ToY.to : (Tl Dy) -> Dy)) (o2 fCons (((o1 fTup (o2 fCons (((some (Str.ofString "0"))).map (ToY.to : Str -> Dy)) (o2 fCons (((some x_law_high)).map (ToY.to : Int -> Dy)) (some ([] : List Dy)))))).map (ToY.to : (Tl Dy) -> Dy)) (o2 fCons (((o1 fTup (o2 fCons (((some x_law_low)).map (ToY.to : Int -> Dy)) (o2 fCons (((o2 fAdd (some x_law_most) (some (1 : Int)))).map (ToY.to : Int -> Dy)) (some ([] : List Dy)))))).map (ToY.to : (Tl Dy) -> Dy)) (o2 fCons (((o1 fTup (o2 fCons (((o1 fNeg (some (1 : Int)))).map (ToY.to : Int -> Dy)) (o2 fCons (((some x_law_high)).map (ToY.to : Int -> Dy)) (some ([] : List Dy)))))).map (ToY.to : (Tl Dy) -> Dy)) (o2 fCons (((o1 fTup (o2 fCons (((o2 fAdd (some x_law_high) (some (1 : Int)))).map (ToY.to : Int -> Dy)) (o2 fCons (((some x_law_high)).map (ToY.to : Int -> Dy)) (some ([] : List Dy)))))).map (ToY.to : (Tl Dy) -> Dy)) (o2 fCons (((o1 fTup (o2 fCons (((o1 fTup (o2 fCons (((some x_law_low)).map (ToY.to : Int -> Dy)) (o2 fCons (((some x_law_high)).map (ToY.to : Int -> Dy)) (some ([] : List Dy)))))).map (ToY.to : (Tl Dy) -> Dy)) (some ([] : List Dy))))).map (ToY.to : (Tl Dy) -> Dy)) (some ([] : List Dy))))))))))
set_option maxHeartbeats 4000000 in
theorem ok_law_odd {P : Program} {w : World} {K : Fg} {mg : Str → Option Value} {base : Heap} (T : Txt K mg) : FnOk P w K mg base CX0 1 T.a_law_odd T.d_law_odd ["_law_low", "_law_high", "_law_most"] (PSn K (A3 K m_law_odd)) := by
  refine T.F_law_odd.ok sc_law_odd (fun vs H Q E h => ?_) (fun cdv A0 outer s H vs Q E hr h => ?_)
  · obtain ⟨r, ⟨v_law_low, v_law_high, v_law_most, x_law_low, x_law_high, x_law_most, rfl, r_law_low, r_law_high, r_law_most, hm⟩, q⟩ := h
    rfl
  · obtain ⟨r_fn, ⟨v_law_low, v_law_high, v_law_most, x_law_low, x_law_high, x_law_most, rfl, r_law_low, r_law_high, r_law_most, hm⟩, q⟩ := h
    refine ⟨_, (pss_cons (ps_set (i := 3) sc_law_odd.nd rfl (by first | exact Or.inl rfl | exact Or.inr rfl) (pe_lst (pa_cons pe_non (pa_cons pe_int (pa_cons pe_bl (pa_cons pe_str (pa_cons pe_dnewK (pa_cons (pe_lst (pa_cons (pv 0) (pa_cons (pv 1) pa_nil))) (pa_cons (pe_tup (pa_cons (pv 0) pa_nil)) (pa_cons (pe_tup (pa_cons (pv 0) (pa_cons (pv 1) (pa_cons (pv 1) pa_nil)))) (pa_cons (pe_tup (pa_cons pe_non (pa_cons (pv 1) pa_nil))) (pa_cons (pe_tup (pa_cons (pv 0) (pa_cons pe_non pa_nil))) (pa_cons (pe_tup (pa_cons pe_bl (pa_cons (pv 2) pa_nil))) pa_nil))))))))))))) (pss_cons (ps_ret (pe_op op_cat (pv 3) (pe_lst (pa_cons (pe_tup (pa_cons (pv 0) (pa_cons pe_bl pa_nil))) (pa_cons (pe_tup (pa_cons pe_str (pa_cons (pv 1) pa_nil))) (pa_cons (pe_tup (pa_cons (pv 0) (pa_cons (pe_op op_add (pv 2) pe_int) pa_nil))) (pa_cons (pe_tup (pa_cons (pe_un un_neg pe_int) (pa_cons (pv 1) pa_nil))) (pa_cons (pe_tup (pa_cons (pe_op op_add (pv 1) pe_int) (pa_cons (pv 1) pa_nil))) (pa_cons (pe_tup (pa_cons (pe_tup (pa_cons (pv 0) (pa_cons (pv 1) pa_nil))) pa_nil)) pa_nil))))))))) pss_nil)), ?_⟩
    unfold m_law_odd at hm
    obtain ⟨H0, e0, q⟩ := heapN q
    obtain ⟨G, A, r_law_low, r_law_high, r_law_most⟩ : exists G, At G H [] ∧ rp K G v_law_low x_law_low ∧ rp K G v_law_high x_law_high ∧ rp K G v_law_most x_law_most := ⟨H, At.nil H, r_law_low, r_law_high, r_law_most⟩
    obtain ⟨x_law_some, hx, hm⟩ := bnd hm
    refine st_asg (eo_lst (lo_cons (eo_conv (f := (ToY.to : Unit -> Dy)) (fun r => c_toY r) ((eb_non (K := K))).own) (lo_cons (eo_conv (f := (ToY.to : Int -> Dy)) (fun r => c_toY r) ((eb_int (K := K))).own) (lo_cons (eo_conv (f := (ToY.to : Bool -> Dy)) (fun r => c_toY r) ((eb_bl (K := K))).own) (lo_cons (eo_conv (f := (ToY.to : Str -> Dy)) (fun r => c_toY r) ((eb_str (K := K))).own) (lo_cons eo_dct (lo_cons (eo_conv (f := (ToY.to : (List Dy) -> Dy)) (fun r => c_toY r) (eo_lst (lo_cons (eo_conv (f := (ToY.to : Int -> Dy)) (fun r => c_toY r) ((eb_v rfl (Rp.mono A.ex r_law_low))).own) (lo_cons (eo_conv (f := (ToY.to : Int -> Dy)) (fun r => c_toY r) ((eb_v rfl (Rp.mono A.ex r_law_high))).own) lo_nil)))) (lo_cons (eo_conv (f := (ToY.to : (Tl Dy) -> Dy)) (fun r => c_toY r) (eo_tup (lo_cons (eo_conv (f := (ToY.to : Int -> Dy)) (fun r => c_toY r) ((eb_v rfl (Rp.mono A.ex r_law_low))).own) lo_nil))) (lo_cons (eo_conv (f := (ToY.to : (Tl Dy) -> Dy)) (fun r => c_toY r) (eo_tup (lo_cons (eo_conv (f := (ToY.to : Int -> Dy)) (fun r => c_toY r) ((eb_v rfl (Rp.mono A.ex r_law_low))).own) (lo_cons (eo_conv (f := (ToY.to : Int -> Dy)) (fun r => c_toY r) ((eb_v rfl (Rp.mono A.ex r_law_high))).own) (lo_cons (eo_conv (f := (ToY.to : Int -> Dy)) (fun r => c_toY r) ((eb_v rfl (Rp.mono A.ex r_law_high))).own) lo_nil))))) (lo_cons (eo_conv (f := (ToY.to : (Tl Dy) -> Dy)) (fun r => c_toY r) (eo_tup (lo_cons (eo_conv (f := (ToY.to : Unit -> Dy)) (fun r => c_toY r) ((eb_non (K := K))).own) (lo_cons (eo_conv (f := (ToY.to : Int -> Dy)) (fun r => c_toY r) ((eb_v rfl (Rp.mono A.ex r_law_high))).own) lo_nil)))) (lo_cons (eo_conv (f := (ToY.to : (Tl Dy) -> Dy)) (fun r => c_toY r) (eo_tup (lo_cons (eo_conv (f := (ToY.to : Int -> Dy)) (fun r => c_toY r) ((eb_v rfl (Rp.mono A.ex r_law_low))).own) (lo_cons (eo_conv (f := (ToY.to : Unit -> Dy)) (fun r => c_toY r) ((eb_non (K := K))).own) lo_nil)))) (lo_cons (eo_conv (f := (ToY.to : (Tl Dy) -> Dy)) (fun r => c_toY r) (eo_tup (lo_cons (eo_conv (f := (ToY.to : Bool -> Dy)) (fun r => c_toY r) ((eb_bl (K := K))).own) (lo_cons (eo_conv (f := (ToY.to : Int -> Dy)) (fun r => c_toY r) ((eb_v rfl (Rp.mono A.ex r_law_most))).own) lo_nil)))) lo_nil)))))))))))) hx A fun v_law_some G109 H110 g e A r_law_some => ?_
    replace r_law_low := Rp.mono g r_law_low
    replace r_law_high := Rp.mono g r_law_high
    replace r_law_most := Rp.mono g r_law_most
    replace e0 := e0.trans e
    exact sr_n (x_cat (eb_v rfl (Rp.mono A.ex r_law_some)) ((x_lst (l_cons (x_conv (f := (ToY.to : (Tl Dy) -> Dy)) (fun r => c_toY r) (x_tup (l_cons (x_conv (f := (ToY.to : Int -> Dy)) (fun r => c_toY r) (eb_v rfl (Rp.mono A.ex r_law_low))) (l_cons (x_conv (f := (ToY.to : Bool -> Dy)) (fun r => c_toY r) (eb_bl (K := K))) (l_nil (K := K)))))) (l_cons (x_conv (f := (ToY.to : (Tl Dy) -> Dy)) (fun r => c_toY r) (x_tup (l_cons (x_conv (f := (ToY.to : Str -> Dy)) (fun r => c_toY r) (eb_str (K := K))) (l_cons (x_conv (f := (ToY.to : Int -> Dy)) (fun r => c_toY r) (eb_v rfl (Rp.mono A.ex r_law_high))) (l_nil (K := K)))))) (l_cons (x_conv (f := (ToY.to : (Tl Dy) -> Dy)) (fun r => c_toY r) (x_tup (l_cons (x_conv (f := (ToY.to : Int -> Dy)) (fun r => c_toY r) (eb_v rfl (Rp.mono A.ex r_law_low))) (l_cons (x_conv (f := (ToY.to : Int -> Dy)) (fun r => c_toY r) (x_add (eb_v rfl (Rp.mono A.ex r_law_most)) (eb_int (K := K)))) (l_nil (K := K)))))) (l_cons (x_conv (f := (ToY.to : (Tl Dy) -> Dy)) (fun r => c_toY r) (x_tup (l_cons (x_conv (f := (ToY.to : Int -> Dy)) (fun r => c_toY r) (x_neg (eb_int (K := K)))) (l_cons (x_conv (f := (ToY.to : Int -> Dy)) (fun r => c_toY r) (eb_v rfl (Rp.mono A.ex r_law_high))) (l_nil (K := K)))))) (l_cons (x_conv (f := (ToY.to : (Tl Dy) -> Dy)) (fun r => c_toY r) (x_tup (l_cons (x_conv (f := (ToY.to : Int -> Dy)) (fun r => c_toY r) (x_add (eb_v rfl (Rp.mono A.ex r_law_high)) (eb_int (K := K)))) (l_cons (x_conv (f := (ToY.to : Int -> Dy)) (fun r => c_toY r) (eb_v rfl (Rp.mono A.ex r_law_high))) (l_nil (K := K)))))) (l_cons (x_conv (f := (ToY.to : (Tl Dy) -> Dy)) (fun r => c_toY r) (x_tup (l_cons (x_conv (f := (ToY.to : (Tl Dy) -> Dy)) (fun r => c_toY r) (x_tup (l_cons (x_conv (f := (ToY.to : Int -> Dy)) (fun r => c_toY r) (eb_v rfl (Rp.mono A.ex r_law_low))) (l_cons (x_conv (f := (ToY.to : Int -> Dy)) (fun r => c_toY r) (eb_v rfl (Rp.mono A.ex r_law_high))) (l_nil (K := K)))))) (l_nil (K := K))))) (l_nil (K := K)))))))))).b) hm fun p ws H hp e h r => q p ws H (e0.back hp) (e0.trans e) h r
/-! _law_no_sets -/
def m_law_no_sets (x_law_some : (Tl (Int × Int))) (x_law_most : Int) (x_law_at : Int) : Option (List Dy) := ((o2 fIxT (o2 fCatT (some x_law_some) (o1 fTup (o2 fCons (o2 fPair (some (0 : Int)) (some (0 : Int))) (some ([] : List (Int × Int)))))) (some x_law_at))).bind fun y111 => ((oComp (fun (y113 : Dy) => (some true)) (fun (y113 : Dy) => (((o2 fCatT (o2 fCatT (((o3 fCutT (some x_law_some) (some none) (((some x_law_at)).map some))).map (toYT : (Tl (Int × Int)) -> (Tl Dy))) (o1 fTup (o2 fCons (some y113) (some ([] : List Dy))))) (((o3 fCutT (some x_law_some) (((some x_law_at)).map some) (some none))).map (toYT : (Tl (Int × Int)) -> (Tl Dy))))).map (ToY.to : (Tl Dy) -> Dy))) (o3 m_law_odd (some y111.1) (some y111.2) (some x_law_most)))).bind fun x_law_found => ((o2 fCat (some x_law_found) (o1 szOk (o2 fCons (((o2 fCatT (o2 fCatT (((o3 fCutT (some x_law_some) (some none) (((some x_law_at)).map some))).map (toYT : (Tl (Int × Int)) -> (Tl Dy))) (o1 fTup (o2 fCons (((o1 fTup (o2 fCons (((some y111.1)).map (ToY.to : Int -> Dy)) (o2 fCons (((some y111.2)).map (ToY.to : Int -> Dy)) (some ([] : List Dy)))))).map (ToY.to : (Tl Dy) -> Dy)) (o2 fCons (((o1 fTup (o2 fCons (((some y111.1)).map (ToY.to : Int -> Dy)) (o2 fCons (((some y111.2)).map (ToY.to : Int -> Dy)) (some ([] : List Dy)))))).map (ToY.to : (Tl Dy) -> Dy)) (some ([] : List Dy)))))) (((o3 fCutT (some x_law_some) (((o2 fAdd (some x_law_at) (some (1 : Int)))).map some) (some none))).map (toYT : (Tl (Int × Int)) -> (Tl Dy))))).map (ToY.to : (Tl Dy) -> Dy)) (o2 fCons (((o1 fTup (o2 fCons (((o1 fTup (o2 fCons (((some (0 : Int))).map (ToY.to : Int -> Dy)) (o2 fCons (((some (0 : Int))).map (ToY.to : Int -> Dy)) (some ([] : List Dy)))))).map (ToY.to : (Tl Dy) -> Dy)) (o2 fCons (((o1 fTup (o2 fCons (((some (1 : Int))).map (ToY.to : Int -> Dy)) (o2 fCons (((some (1 : Int))).map (ToY.to : Int -> Dy)) (some ([] : List Dy)))))).map (ToY.to : (Tl Dy) -> Dy)) (some ([] : List Dy)))))).map (ToY.to : (Tl Dy) -> Dy)) (o2 fCons (((o1 fTup (o2 fCons (((o1 fTup (o2 fCons (((some (2 : Int))).map (ToY.to : Int -> Dy)) (o2 fCons (((some (2 : Int))).map (ToY.to : Int -> Dy)) (some ([] : List Dy)))))).map (ToY.to : (Tl Dy) -> Dy)) (o2 fCons (((o1 fTup (o2 fCons (((some (0 : Int))).map (ToY.to : Int -> Dy)) (o2 fCons (((some (0 : Int))).map (ToY.to : Int -> Dy)) (some ([] : List Dy)))))).map (ToY.to : (Tl Dy) -> Dy)) (some ([] : List Dy)))))).map (ToY.to : (Tl Dy) -> Dy)) (some ([] : List Dy)))))))).bind fun x_law_found => (o2 fCat (some x_law_found) (o1 szOk (o2 fCons (((o1 fListT (some x_law_some))).map (ToY.to : (List (Int × Int)) -> Dy)) (o2 fCons (((some ())).map (ToY.to : Unit -> Dy)) (o2 fCons (((some true)).map (ToY.to : Bool -> Dy)) (o2 fCons (((some (0 : Int))).map (ToY.to : Int -> Dy)) (o2 fCons (((some (Str.ofString ""))).map (ToY.to : Str -> Dy)) (o2 fCons (some Dy.dct) (o2 fCons (((o1 fTup (o2 fCons (((some (0 : Int))).map (ToY.to : Int -> Dy)) (o2 fCons (((some (0 : Int))).map (ToY.to : Int -> Dy)) (some ([] : List Dy)))))).map (ToY.to : (Tl Dy) -> Dy)) (some ([] : List Dy)))))))))))
set_option maxHeartbeats 4000000 in
theorem ok_law_no_sets {P : Program} {w : World} {K : Fg} {mg : Str → Option Value} {base : Heap} (T : Txt K mg) : FnOk P w K mg base CX0 2 T.a_law_no_sets T.d_law_no_sets ["_law_some", "_law_most", "_law_at"] (PSn K (A3 K m_law_no_sets)) := by
  refine T.F_law_no_sets.ok sc_law_no_sets (fun vs H Q E h => ?_) (fun cdv A0 outer s H vs Q E hr h => ?_)
  · obtain ⟨r, ⟨v_law_some, v_law_most, v_law_at, x_law_some, x_law_most, x_law_at, rfl, r_law_some, r_law_most, r_law_at, hm⟩, q⟩ := h
    rfl
  · obtain ⟨r_fn, ⟨v_law_some, v_law_most, v_law_at, x_law_some, x_law_most, x_law_at, rfl, r_law_some, r_law_most, r_law_at, hm⟩, q⟩ := h
    refine ⟨_, (pss_cons (ps_asg (pe_ix (ixT_K (K := K) rfl) (pe_op (catA_K (K := K) rfl) (pv 0) (pe_tup (pa_cons (pe_tup (pa_cons pe_int (pa_cons pe_int pa_nil))) pa_nil))) (pv 2) (fun _ _ => rfl)) (pg_tup rfl (pgs_cons (pg_name (i := 3) sc_law_no_sets.nd rfl (by first | exact Or.inl rfl | exact Or.inr rfl)) (pgs_cons (pg_name (i := 4) sc_law_no_sets.nd rfl (by first | exact Or.inl rfl | exact Or.inr rfl)) pgs_nil)))) (pss_cons (ps_setLc (i := 5) (own := [("_law_one", 6)]) (g := (gName 6)) rfl sc_law_no_sets.nd rfl rfl (sw_true rfl rfl rfl (by decide +kernel)) (piL_K (K := K) rfl (pe_call (ok_law_odd T) (hr.mono (by decide)) (by rfl) T.g_law_odd T.F_law_odd.kp T.b_law_odd .nil pass0 (pa_cons (pv 3) (pa_cons (pv 4) (pa_cons (pv 1) pa_nil))))) (blkOk_by (N := ["_law_some", "_law_most", "_law_at", "_law_low", "_law_high", "_law_found", "_law_one"]) (sc := defScope s_law_no_sets) (by decide +kernel)) (fun _ _ _ _ _ => by exact (pg_name (i := 6) sc_law_no_sets.nd rfl (by first | exact Or.inl rfl | exact Or.inr rfl))) (fun _ _ _ _ _ => by exact pts_nil) (fun _ _ _ _ _ => by exact (pe_op (catA_K (K := K) rfl) (pe_op (catA_K (K := K) rfl) (pe_slice (slA_K (K := K) rfl) (pv 0) po_none (po_some (pv 2))) (pe_tup (pa_cons (pv 6) pa_nil))) (pe_slice (slA_K (K := K) rfl) (pv 0) (po_some (pv 2)) po_none)))) (pss_cons (ps_set (i := 5) sc_law_no_sets.nd rfl (by first | exact Or.inl rfl | exact Or.inr rfl) (pe_op op_cat (pv 5) (pe_lst (pa_cons (pe_op (catA_K (K := K) rfl) (pe_op (catA_K (K := K) rfl) (pe_slice (slA_K (K := K) rfl) (pv 0) po_none (po_some (pv 2))) (pe_tup (pa_cons (pe_tup (pa_cons (pv 3) (pa_cons (pv 4) pa_nil))) (pa_cons (pe_tup (pa_cons (pv 3) (pa_cons (pv 4) pa_nil))) pa_nil)))) (pe_slice (slA_K (K := K) rfl) (pv 0) (po_some (pe_op op_add (pv 2) pe_int)) po_none)) (pa_cons (pe_tup (pa_cons (pe_tup (pa_cons pe_int (pa_cons pe_int pa_nil))) (pa_cons (pe_tup (pa_cons pe_int (pa_cons pe_int pa_nil))) pa_nil))) (pa_cons (pe_tup (pa_cons (pe_tup (pa_cons pe_int (pa_cons pe_int pa_nil))) (pa_cons (pe_tup (pa_cons pe_int (pa_cons pe_int pa_nil))) pa_nil))) pa_nil)))))) (pss_cons (ps_ret (pe_op op_cat (pv 5) (pe_lst (pa_cons (pe_callTy (lof_K (K := K) rfl) (by rfl) T.n_list bb_list (pa_cons (pv 0) pa_nil)) (pa_cons pe_non (pa_cons pe_bl (pa_cons pe_int (pa_cons pe_str (pa_cons pe_dnewK (pa_cons (pe_tup (pa_cons pe_int (pa_cons pe_int pa_nil))) pa_nil)))))))))) pss_nil)))), ?_⟩
    unfold m_law_no_sets at hm
    obtain ⟨H0, e0, q⟩ := heapN q
    obtain ⟨G, A, r_law_some, r_law_most, r_law_at⟩ : exists G, At G H [] ∧ rp K G v_law_some x_law_some ∧ rp K G v_law_most x_law_most ∧ rp K G v_law_at x_law_at := ⟨H, At.nil H, r_law_some, r_law_most, r_law_at⟩
    obtain ⟨y111, hy111, hm⟩ := bnd hm
    refine st_asgP (x_ixT (x_catT (eb_v rfl (Rp.mono A.ex r_law_some)) (x_tup (l_cons (x_pair (eb_int (K := K)) (eb_int (K := K))) (l_nil (K := K))))) (eb_v rfl (Rp.mono A.ex r_law_at))) hy111 (tg_p tg_n tg_n) fun σ2 H112 e hb => ?_
    obtain ⟨_, ⟨v_law_low, r_law_low, rfl⟩, ⟨v_law_high, r_law_high, rfl⟩⟩ := hb
    replace A := A.grow e
    replace e0 := e0.trans e
    have g := A.ex
    replace A := At.nil H112
    replace r_law_some := Rp.mono g r_law_some
    replace r_law_most := Rp.mono g r_law_most
    replace r_law_at := Rp.mono g r_law_at
    obtain ⟨x_law_found, hx, hm⟩ := bnd hm
    refine st_asgE ((x_lcO (j_list (es_b ((en_call (em3 (eb_v rfl (Rp.mono A.ex r_law_low)) (eb_v rfl (Rp.mono A.ex r_law_high)) (eb_v rfl (Rp.mono A.ex r_law_most))))).b)) (by decide) (fun y113 c113v_law_one Hc gh113 c113r_law_one => t_yes) (fun y113 c113v_law_one GG113 Hc gG113 gh113 c113r_law_one => (eo_conv (f := (ToY.to : (Tl Dy) -> Dy)) (fun r => c_toY r) (eo_catT (eo_catT (eo_conv (f := (toYT : (Tl (Int × Int)) -> (Tl Dy))) (fun r => c_toYT r) ((x_cutT (eb_v rfl (Rp.mono gh113 (Rp.mono gG113 (Rp.mono A.ex r_law_some)))) ep_none (ep_some (eb_v rfl (Rp.mono gh113 (Rp.mono gG113 (Rp.mono A.ex r_law_at))))))).own) (eo_tup (lo_cons (eo_v rfl c113r_law_one) lo_nil))) (eo_conv (f := (toYT : (Tl (Int × Int)) -> (Tl Dy))) (fun r => c_toYT r) ((x_cutT (eb_v rfl (Rp.mono gh113 (Rp.mono gG113 (Rp.mono A.ex r_law_some)))) (ep_some (eb_v rfl (Rp.mono gh113 (Rp.mono gG113 (Rp.mono A.ex r_law_at))))) ep_none)).own)))))).b hx fun v_law_found H115 e r_law_found => ?_
    replace A := A.grow e
    have g := A.ex
    replace A := At.nil H115
    replace r_law_some := Rp.mono g r_law_some
    replace r_law_most := Rp.mono g r_law_most
    replace r_law_at := Rp.mono g r_law_at
    replace r_law_low := Rp.mono g r_law_low
    replace r_law_high := Rp.mono g r_law_high
    replace e0 := e0.trans e
    obtain ⟨x_law_found, hx, hm⟩ := bnd hm
    refine st_asg (eo_cat (eo_v rfl r_law_found) (eo_lst (lo_cons (eo_conv (f := (ToY.to : (Tl Dy) -> Dy)) (fun r => c_toY r) (eo_catT (eo_catT (eo_conv (f := (toYT : (Tl (Int × Int)) -> (Tl Dy))) (fun r => c_toYT r) ((x_cutT (eb_v rfl (Rp.mono A.ex r_law_some)) ep_none (ep_some (eb_v rfl (Rp.mono A.ex r_law_at))))).own) (eo_tup (lo_cons (eo_conv (f := (ToY.to : (Tl Dy) -> Dy)) (fun r => c_toY r) (eo_tup (lo_cons (eo_conv (f := (ToY.to : Int -> Dy)) (fun r => c_toY r) ((eb_v rfl (Rp.mono A.ex r_law_low))).own) (lo_cons (eo_conv (f := (ToY.to : Int -> Dy)) (fun r => c_toY r) ((eb_v rfl (Rp.mono A.ex r_law_high))).own) lo_nil)))) (lo_cons (eo_conv (f := (ToY.to : (Tl Dy) -> Dy)) (fun r => c_toY r) (eo_tup (lo_cons (eo_conv (f := (ToY.to : Int -> Dy)) (fun r => c_toY r) ((eb_v rfl (Rp.mono A.ex r_law_low))).own) (lo_cons (eo_conv (f := (ToY.to : Int -> Dy)) (fun r => c_toY r) ((eb_v rfl (Rp.mono A.ex r_law_high))).own) lo_nil)))) lo_nil)))) (eo_conv (f := (toYT : (Tl (Int × Int)) -> (Tl Dy))) (fun r => c_toYT r) ((x_cutT (eb_v rfl (Rp.mono A.ex r_law_some)) (ep_some (x_add (eb_v rfl (Rp.mono A.ex r_law_at)) (eb_int (K := K)))) ep_none)).own))) (lo_cons (eo_conv (f := (ToY.to : (Tl Dy) -> Dy)) (fun r => c_toY r) (eo_tup (lo_cons (eo_conv (f := (ToY.to : (Tl Dy) -> Dy)) (fun r => c_toY r) (eo_tup (lo_cons (eo_conv (f := (ToY.to : Int -> Dy)) (fun r => c_toY r) ((eb_int (K := K))).own) (lo_cons (eo_conv (f := (ToY.to : Int -> Dy)) (fun r => c_toY r) ((eb_int (K := K))).own) lo_nil)))) (lo_cons (eo_conv (f := (ToY.to : (Tl Dy) -> Dy)) (fun r => c_toY r) (eo_tup (lo_cons (eo_conv (f := (ToY.to : Int -> Dy)) (fun r => c_toY r) ((eb_int (K := K))).own) (lo_cons (eo_conv (f := (ToY.to : Int -> Dy)) (fun r => c_toY r) ((eb_int (K := K))).own) lo_nil)))) lo_nil)))) (lo_cons (eo_conv (f := (ToY.to : (Tl Dy) -> Dy)) (fun r => c_toY r) (eo_tup (lo_cons (eo_conv (f := (ToY.to : (Tl Dy) -> Dy)) (fun r => c_toY r) (eo_tup (lo_cons (eo_conv (f := (ToY.to : Int -> Dy)) (fun r => c_toY r) ((eb_int (K := K))).own) (lo_cons (eo_conv (f := (ToY.to : Int -> Dy)) (fun r => c_toY r) ((eb_int (K := K))).own) lo_nil)))) (lo_cons (eo_conv (f := (ToY.to : (Tl Dy) -> Dy)) (fun r => c_toY r) (eo_tup (lo_cons (eo_conv (f := (ToY.to : Int -> Dy)) (fun r => c_toY r) ((eb_int (K := K))).own) (lo_cons (eo_conv (f := (ToY.to : Int -> Dy)) (fun r => c_toY r) ((eb_int (K := K))).own) lo_nil)))) lo_nil)))) lo_nil))))) hx A fun v_law_found G116 H117 g e A r_law_found => ?_
    replace r_law_some := Rp.mono g r_law_some
    replace r_law_most := Rp.mono g r_law_most
    replace r_law_at := Rp.mono g r_law_at
    replace r_law_low := Rp.mono g r_law_low
    replace r_law_high := Rp.mono g r_law_high
    replace e0 := e0.trans e
    exact sr_n (x_cat (eb_v rfl (Rp.mono A.ex r_law_found)) ((x_lst (l_cons (x_conv (f := (ToY.to : (List (Int × Int)) -> Dy)) (fun r => c_toY r) ((x_listT (eb_v rfl (Rp.mono A.ex r_law_some)))).b) (l_cons (x_conv (f := (ToY.to : Unit -> Dy)) (fun r => c_toY r) (eb_non (K := K))) (l_cons (x_conv (f := (ToY.to : Bool -> Dy)) (fun r => c_toY r) (eb_bl (K := K))) (l_cons (x_conv (f := (ToY.to : Int -> Dy)) (fun r => c_toY r) (eb_int (K := K))) (l_cons (x_conv (f := (ToY.to : Str -> Dy)) (fun r => c_toY r) (eb_str (K := K))) (l_cons x_dct (l_cons (x_conv (f := (ToY.to : (Tl Dy) -> Dy)) (fun r => c_toY r) (x_tup (l_cons (x_conv (f := (ToY.to : Int -> Dy)) (fun r => c_toY r) (eb_int (K := K))) (l_cons (x_conv (f := (ToY.to : Int -> Dy)) (fun r => c_toY r) (eb_int (K := K))) (l_nil (K := K)))))) (l_nil (K := K))))))))))).b) hm fun p ws H hp e h r => q p ws H (e0.back hp) (e0.trans e) h r
/-! _law_no_lists -/
def m_law_no_lists (x_law_some : (Tl (Int × Int))) (x_law_most : Int) (x_law_at : Int) : Option (List Dy) := ((o2 fIxT (o2 fCatT (some x_law_some) (o1 fTup (o2 fCons (o2 fPair (some (0 : Int)) (some (0 : Int))) (some ([] : List (Int × Int)))))) (some x_law_at))).bind fun y118 => ((oComp (fun (y120 : Dy) => (some true)) (fun (y120 : Dy) => (((o2 fCat (o2 fCat (((o1 fListT (o3 fCutT (some x_law_some) (some none) (((some x_law_at)).map some)))).map (toYL : (List (Int × Int)) -> (List Dy))) (o1 szOk (o2 fCons (some y120) (some ([] : List Dy))))) (((o1 fListT (o3 fCutT (some x_law_some) (((some x_law_at)).map some) (some none)))).map (toYL : (List (Int × Int)) -> (List Dy))))).map (ToY.to : (List Dy) -> Dy))) (o3 m_law_odd (some y118.1) (some y118.2) (some x_law_most)))).bind fun x_law_found => (o2 fCat (some x_law_found) (o1 szOk (o2 fCons (((some x_law_some)).map (ToY.to : (Tl (Int × Int)) -> Dy)) (o2 fCons (((some ())).map (ToY.to : Unit -> Dy)) (o2 fCons (((some true)).map (ToY.to : Bool -> Dy)) (o2 fCons (((some (0 : Int))).map (ToY.to : Int -> Dy)) (o2 fCons (((some (Str.ofString ""))).map (ToY.to : Str -> Dy)) (o2 fCons (some Dy.dct) (o2 fCons (((o1 szOk (o2 fCons (((some (0 : Int))).map (ToY.to : Int -> Dy)) (o2 fCons (((some (0 : Int))).map (ToY.to : Int -> Dy)) (some ([] : List Dy)))))).map (ToY.to : (List Dy) -> Dy)) (o2 fCons (((o1 szOk (o2 fCons (((o1 szOk (some ([] : List Dy)))).map (ToY.to : (List Dy) -> Dy)) (some ([] : List Dy))))).map (ToY.to : (List Dy) -> Dy)) (o2 fCons (((o1 szOk (o2 fCons (((o1 fTup (some ([] : List Dy)))).map (ToY.to : (Tl Dy) -> Dy)) (some ([] : List Dy))))).map (ToY.to : (List Dy) -> Dy)) (some ([] : List Dy)))))))))))))
set_option maxHeartbeats 4000000 in
theorem ok_law_no_lists {P : Program} {w : World} {K : Fg} {mg : Str → Option Value} {base : Heap} (T : Txt K mg) : FnOk P w K mg base CX0 2 T.a_law_no_lists T.d_law_no_lists ["_law_some", "_law_most", "_law_at"] (PSn K (A3 K m_law_no_lists)) := by
  refine T.F_law_no_lists.ok sc_law_no_lists (fun vs H Q E h => ?_) (fun cdv A0 outer s H vs Q E hr h => ?_)
  · obtain ⟨r, ⟨v_law_some, v_law_most, v_law_at, x_law_some, x_law_most, x_law_at, rfl, r_law_some, r_law_most, r_law_at, hm⟩, q⟩ := h
    rfl
  · obtain ⟨r_fn, ⟨v_law_some, v_law_most, v_law_at, x_law_some, x_law_most, x_law_at, rfl, r_law_some, r_law_most, r_law_at, hm⟩, q⟩ := h
    refine ⟨_, (pss_cons (ps_asg (pe_ix (ixT_K (K := K) rfl) (pe_op (catA_K (K := K) rfl) (pv 0) (pe_tup (pa_cons (pe_tup (pa_cons pe_int (pa_cons pe_int pa_nil))) pa_nil))) (pv 2) (fun _ _ => rfl)) (pg_tup rfl (pgs_cons (pg_name (i := 3) sc_law_no_lists.nd rfl (by first | exact Or.inl rfl | exact Or.inr rfl)) (pgs_cons (pg_name (i := 4) sc_law_no_lists.nd rfl (by first | exact Or.inl rfl | exact Or.inr rfl)) pgs_nil)))) (pss_cons (ps_setLc (i := 5) (own := [("_law_one", 6)]) (g := (gName 6)) rfl sc_law_no_lists.nd rfl rfl (sw_true rfl rfl rfl (by decide +kernel)) (piL_K (K := K) rfl (pe_call (ok_law_odd T) (hr.mono (by decide)) (by rfl) T.g_law_odd T.F_law_odd.kp T.b_law_odd .nil pass0 (pa_cons (pv 3) (pa_cons (pv 4) (pa_cons (pv 1) pa_nil))))) (blkOk_by (N := ["_law_some", "_law_most", "_law_at", "_law_low", "_law_high", "_law_found", "_law_one"]) (sc := defScope s_law_no_lists) (by decide +kernel)) (fun _ _ _ _ _ => by exact (pg_name (i := 6) sc_law_no_lists.nd rfl (by first | exact Or.inl rfl | exact Or.inr rfl))) (fun _ _ _ _ _ => by exact pts_nil) (fun _ _ _ _ _ => by exact (pe_op op_cat (pe_op op_cat (pe_callTy (lof_K (K := K) rfl) (by rfl) T.n_list bb_list (pa_cons (pe_slice (slA_K (K := K) rfl) (pv 0) po_none (po_some (pv 2))) pa_nil)) (pe_lst (pa_cons (pv 6) pa_nil))) (pe_callTy (lof_K (K := K) rfl) (by rfl) T.n_list bb_list (pa_cons (pe_slice (slA_K (K := K) rfl) (pv 0) (po_some (pv 2)) po_none) pa_nil))))) (pss_cons (ps_ret (pe_op op_cat (pv 5) (pe_lst (pa_cons (pv 0) (pa_cons pe_non (pa_cons pe_bl (pa_cons pe_int (pa_cons pe_str (pa_cons pe_dnewK (pa_cons (pe_lst (pa_cons pe_int (pa_cons pe_int pa_nil))) (pa_cons (pe_lst (pa_cons (pe_lst pa_nil) pa_nil)) (pa_cons (pe_lst (pa_cons (pe_tup pa_nil) pa_nil)) pa_nil)))))))))))) pss_nil))), ?_⟩
    unfold m_law_no_lists at hm
    obtain ⟨H0, e0, q⟩ := heapN q
    obtain ⟨G, A, r_law_some, r_law_most, r_law_at⟩ : exists G, At G H [] ∧ rp K G v_law_some x_law_some ∧ rp K G v_law_most x_law_most ∧ rp K G v_law_at x_law_at := ⟨H, At.nil H, r_law_some, r_law_most, r_law_at⟩
    obtain ⟨y118, hy118, hm⟩ := bnd hm
    refine st_asgP (x_ixT (x_catT (eb_v rfl (Rp.mono A.ex r_law_some)) (x_tup (l_cons (x_pair (eb_int (K := K)) (eb_int (K := K))) (l_nil (K := K))))) (eb_v rfl (Rp.mono A.ex r_law_at))) hy118 (tg_p tg_n tg_n) fun σ2 H119 e hb => ?_
    obtain ⟨_, ⟨v_law_low, r_law_low, rfl⟩, ⟨v_law_high, r_law_high, rfl⟩⟩ := hb
    replace A := A.grow e
    replace e0 := e0.trans e
    have g := A.ex
    replace A := At.nil H119
    replace r_law_some := Rp.mono g r_law_some
    replace r_law_most := Rp.mono g r_law_most
    replace r_law_at := Rp.mono g r_law_at
    obtain ⟨x_law_found, hx, hm⟩ := bnd hm
    refine st_asgE ((x_lcO (j_list (es_b ((en_call (em3 (eb_v rfl (Rp.mono A.ex r_law_low)) (eb_v rfl (Rp.mono A.ex r_law_high)) (eb_v rfl (Rp.mono A.ex r_law_most))))).b)) (by decide) (fun y120 c120v_law_one Hc gh120 c120r_law_one => t_yes) (fun y120 c120v_law_one GG120 Hc gG120 gh120 c120r_law_one => (eo_conv (f := (ToY.to : (List Dy) -> Dy)) (fun r => c_toY r) (eo_cat (eo_cat (eo_conv (f := (toYL : (List (Int × Int)) -> (List Dy))) (fun r => c_toYL r) ((x_listT (x_cutT (eb_v rfl (Rp.mono gh120 (Rp.mono gG120 (Rp.mono A.ex r_law_some)))) ep_none (ep_some (eb_v rfl (Rp.mono gh120 (Rp.mono gG120 (Rp.mono A.ex r_law_at)))))))).own) (eo_lst (lo_cons (eo_v rfl c120r_law_one) lo_nil))) (eo_conv (f := (toYL : (List (Int × Int)) -> (List Dy))) (fun r => c_toYL r) ((x_listT (x_cutT (eb_v rfl (Rp.mono gh120 (Rp.mono gG120 (Rp.mono A.ex r_law_some)))) (ep_some (eb_v rfl (Rp.mono gh120 (Rp.mono gG120 (Rp.mono A.ex r_law_at))))) ep_none))).own)))))).b hx fun v_law_found H122 e r_law_found => ?_
    replace A := A.grow e
    have g := A.ex
    replace A := At.nil H122
    replace r_law_some := Rp.mono g r_law_some
    replace r_law_most := Rp.mono g r_law_most
    replace r_law_at := Rp.mono g r_law_at
    replace r_law_low := Rp.mono g r_law_low
    replace r_law_high := Rp.mono g r_law_high
    replace e0 := e0.trans e
    exact sr_n (x_cat (eb_v rfl (Rp.mono A.ex r_law_found)) ((x_lst (l_cons (x_conv (f := (ToY.to : (Tl (Int × Int)) -> Dy)) (fun r => c_toY r) (eb_v rfl (Rp.mono A.ex r_law_some))) (l_cons (x_conv (f := (ToY.to : Unit -> Dy)) (fun r => c_toY r) (eb_non (K := K))) (l_cons (x_conv (f := (ToY.to : Bool -> Dy)) (fun r => c_toY r) (eb_bl (K := K))) (l_cons (x_conv (f := (ToY.to : Int -> Dy)) (fun r => c_toY r) (eb_int (K := K))) (l_cons (x_conv (f := (ToY.to : Str -> Dy)) (fun r => c_toY r) (eb_str (K := K))) (l_cons x_dct (l_cons (x_conv (f := (ToY.to : (List Dy) -> Dy)) (fun r => c_toY r) ((x_lst (l_cons (x_conv (f := (ToY.to : Int -> Dy)) (fun r => c_toY r) (eb_int (K := K))) (l_cons (x_conv (f := (ToY.to : Int -> Dy)) (fun r => c_toY r) (eb_int (K := K))) (l_nil (K := K)))))).b) (l_cons (x_conv (f := (ToY.to : (List Dy) -> Dy)) (fun r => c_toY r) ((x_lst (l_cons (x_conv (f := (ToY.to : (List Dy) -> Dy)) (fun r => c_toY r) ((x_lst (l_nil (K := K)))).b) (l_nil (K := K))))).b) (l_cons (x_conv (f := (ToY.to : (List Dy) -> Dy)) (fun r => c_toY r) ((x_lst (l_cons (x_conv (f := (ToY.to : (Tl Dy) -> Dy)) (fun r => c_toY r) (x_tup (l_nil (K := K)))) (l_nil (K := K))))).b) (l_nil (K := K))))))))))))).b) hm fun p ws H hp e h r => q p ws H (e0.back hp) (e0.trans e) h r
/-! _law_told -/
def m_law_told (x_law_deed : Int) (x_law_most : Int) (x_law_thing : Dy) : Option (Dy ⊕ Xn) := ((some ())).bind fun x_law_found => ((o2 fEq (some x_law_deed) (some (0 : Int)))).bind fun b125 => if b125 = true then (((fMapR (fun z => some ((ToY.to : (Str × Unit) -> Dy) z)) (oPairR (some (Str.ofString "told")) (o2 m_need_set (some x_law_most) (some x_law_thing))))).bind fun o127 => onR o127 (fun x_law_found => (some (Sum.inl x_law_found : (Dy ⊕ Xn)))) (fun cx => okc ["BadSet"] cx (some (Sum.inr ⟨cx⟩ : (Dy ⊕ Xn))))) else (((fMapR (fun z => some ((ToY.to : (Str × (Tl (Int × Int))) -> Dy) z)) (oPairR (some (Str.ofString "told")) (o2 m_set_of (some x_law_most) (some x_law_thing))))).bind fun o130 => onR o130 (fun x_law_found => (some (Sum.inl x_law_found : (Dy ⊕ Xn)))) (fun cx => okc ["BadSet"] cx (some (Sum.inr ⟨cx⟩ : (Dy ⊕ Xn)))))
set_option maxHeartbeats 4000000 in
theorem ok_law_told {P : Program} {w : World} {K : Fg} {mg : Str → Option Value} {base : Heap} (T : Txt K mg) : FnOk P w K mg base CX0 4 T.a_law_told T.d_law_told ["_law_deed", "_law_most", "_law_thing"] (PSb K (A3 K m_law_told)) := by
  refine T.F_law_told.ok sc_law_told (fun vs H Q E h => ?_) (fun cdv A0 outer s H vs Q E hr h => ?_)
  · obtain ⟨r, ⟨v_law_deed, v_law_most, v_law_thing, x_law_deed, x_law_most, x_law_thing, rfl, r_law_deed, r_law_most, r_law_thing, hm⟩, q⟩ := h
    rfl
  · obtain ⟨r_fn, ⟨v_law_deed, v_law_most, v_law_thing, x_law_deed, x_law_most, x_law_thing, rfl, r_law_deed, r_law_most, r_law_thing, hm⟩, q⟩ := h
    refine ⟨_, (pss_cons (ps_set (i := 3) sc_law_told.nd rfl (by first | exact Or.inl rfl | exact Or.inr rfl) pe_non) (pss_cons (ps_try_asV (i := 4) rfl rfl rfl sc_law_told.nd rfl rfl ⟨rfl, by decide, .inl T.g_GateError⟩ (fun W pn xe tk po => (pss_cons (ps_if (pt_cmpR (opEq_K (K := K) rfl hr.units) (pv 0) pe_int (nomark _)) (pss_cons (ps_set (i := 3) sc_law_told.nd rfl (by first | exact Or.inl rfl | exact Or.inr rfl) (pe_tup (pa_cons pe_str (pa_cons (pe_callS (ok_need_set T) (hr.mono (by decide)) (by rfl) T.g_need_set T.F_need_set.kp T.b_need_set (fun σ => passAt tk σ) (pa_cons (pv 1) (pa_cons (pv 2) pa_nil))) pa_nil)))) pss_nil) (pss_cons (ps_set (i := 3) sc_law_told.nd rfl (by first | exact Or.inl rfl | exact Or.inr rfl) (pe_tup (pa_cons pe_str (pa_cons (pe_callS (ok_set_of T) (hr.mono (by decide)) (by rfl) T.g_set_of T.F_set_of.kp T.b_set_of (fun σ => passAt tk σ) (pa_cons (pv 1) (pa_cons (pv 2) pa_nil))) pa_nil)))) pss_nil)) pss_nil)) (fun a oe cls d pn hz hf => pss_cons (ps_set (i := 3) sc_law_told.nd rfl (by first | exact Or.inl rfl | exact Or.inr rfl) (pv 4)) pss_nil)) (pss_cons (ps_ret (pv 3)) pss_nil))), ?_⟩
    unfold m_law_told at hm
    obtain ⟨H0, e0, q⟩ := heapB q
    obtain ⟨G, A, r_law_deed, r_law_most, r_law_thing⟩ : exists G, At G H [] ∧ rp K G v_law_deed x_law_deed ∧ rp K G v_law_most x_law_most ∧ rp K G v_law_thing x_law_thing := ⟨H, At.nil H, r_law_deed, r_law_most, r_law_thing⟩
    obtain ⟨x_law_found, hx, hm⟩ := bnd hm
    refine st_asg ((eb_non (K := K))).own hx A fun v_law_found G123 H124 g e A r_law_found => ?_
    replace r_law_deed := Rp.mono g r_law_deed
    replace r_law_most := Rp.mono g r_law_most
    replace r_law_thing := Rp.mono g r_law_thing
    replace e0 := e0.trans e
    obtain ⟨b125, hb125, hm⟩ := bnd hm
    refine st_if (et_test (x_eq (by decide) (eb_v rfl (Rp.mono A.ex r_law_deed)) (eb_int (K := K)))) hb125 (fun eb125 H126 e => ?_) (fun eb125 H126 e => ?_)
    · subst eb125
      replace hm := itt hm
      replace A := A.grow e
      replace e0 := e0.trans e
      obtain ⟨o127, ho127, hm⟩ := bnd hm
      refine st_asgR (er_map (f := fun z => some ((ToY.to : (Str × Unit) -> Dy) z)) (fun h r => by cases h; exact c_toY r) (er_pair (eb_str (K := K)) (er_call (em2 (eb_v rfl (Rp.mono A.ex r_law_most)) (eb_v rfl (Rp.mono A.ex r_law_thing)))))) ho127 (fun x_law_found v_law_found H128 hx e r_law_found => ?_) (fun cx H128 hx e => ?_)
      · subst hx
        replace hm := onRl hm
        replace A := A.grow e
        have g := A.ex
        replace A := At.nil H128
        replace r_law_deed := Rp.mono g r_law_deed
        replace r_law_most := Rp.mono g r_law_most
        replace r_law_thing := Rp.mono g r_law_thing
        replace e0 := e0.trans e
        replace r_law_found : rp K H128 v_law_found (Sum.inl x_law_found : (Dy ⊕ Xn)) := r_law_found
        exact sr_b (eb_v rfl (Rp.mono A.ex r_law_found)) hm fun w H e r => q w H (e0.trans e) r
      · subst hx
        replace hm := onRr hm
        replace A := A.grow e
        replace e0 := e0.trans e
        replace hm := okcs hm
        intro C iC
        refine ⟨T.xm_GateError cx hm.1 C iC, fun a ha => ?_⟩
        replace hm := hm.2
        refine st_suiteV rfl ?_
        have r_law_found : rp K (upd H128 a (ExV (.ref C) none a)) (V.ref a) (Sum.inr ⟨cx⟩ : (Dy ⊕ Xn)) := ⟨a, C, rfl, iC, upd_same⟩
        have e := Gx.new (o := ExV (.ref C) none a) ha
        replace A := A.grow e
        have g := A.ex
        replace A := At.nil (upd H128 a (ExV (.ref C) none a))
        replace r_law_deed := Rp.mono g r_law_deed
        replace r_law_most := Rp.mono g r_law_most
        replace r_law_thing := Rp.mono g r_law_thing
        replace e0 := e0.trans e
        generalize upd H128 a (ExV (.ref C) none a) = H129 at *
        exact sr_b (eb_v rfl (Rp.mono A.ex r_law_found)) hm fun w H e r => q w H (e0.trans e) r
    · subst eb125
      replace hm := itf hm
      replace A := A.grow e
      replace e0 := e0.trans e
      obtain ⟨o130, ho130, hm⟩ := bnd hm
      refine st_asgR (er_map (f := fun z => some ((ToY.to : (Str × (Tl (Int × Int))) -> Dy) z)) (fun h r => by cases h; exact c_toY r) (er_pair (eb_str (K := K)) (er_call (em2 (eb_v rfl (Rp.mono A.ex r_law_most)) (eb_v rfl (Rp.mono A.ex r_law_thing)))))) ho130 (fun x_law_found v_law_found H131 hx e r_law_found => ?_) (fun cx H131 hx e => ?_)
      · subst hx
        replace hm := onRl hm
        replace A := A.grow e
        have g := A.ex
        replace A := At.nil H131
        replace r_law_deed := Rp.mono g r_law_deed
        replace r_law_most := Rp.mono g r_law_most
        replace r_law_thing := Rp.mono g r_law_thing
        replace e0 := e0.trans e
        replace r_law_found : rp K H131 v_law_found (Sum.inl x_law_found : (Dy ⊕ Xn)) := r_law_found
        exact sr_b (eb_v rfl (Rp.mono A.ex r_law_found)) hm fun w H e r => q w H (e0.trans e) r
      · subst hx
        replace hm := onRr hm
        replace A := A.grow e
        replace e0 := e0.trans e
        replace hm := okcs hm
        intro C iC
        refine ⟨T.xm_GateError cx hm.1 C iC, fun a ha => ?_⟩
        replace hm := hm.2
        refine st_suiteV rfl ?_
        have r_law_found : rp K (upd H131 a (ExV (.ref C) none a)) (V.ref a) (Sum.inr ⟨cx⟩ : (Dy ⊕ Xn)) := ⟨a, C, rfl, iC, upd_same⟩
        have e := Gx.new (o := ExV (.ref C) none a) ha
        replace A := A.grow e
        have g := A.ex
        replace A := At.nil (upd H131 a (ExV (.ref C) none a))
        replace r_law_deed := Rp.mono g r_law_deed
        replace r_law_most := Rp.mono g r_law_most
        replace r_law_thing := Rp.mono g r_law_thing
        replace e0 := e0.trans e
        generalize upd H131 a (ExV (.ref C) none a) = H132 at *
        exact sr_b (eb_v rfl (Rp.mono A.ex r_law_found)) hm fun w H e r => q w H (e0.trans e) r
/-! _law_asked -/
def m_law_asked_l1 (z135_law_most : Int) (s135 : (List Int)) (x135 : (Int × Int)) : Option (List Int) := ((o2 fCat (o2 fCat (some s135) (o1 szOk (o2 fCons (some x135.1) (o2 fCons (some x135.2) (some ([] : List Int)))))) (oComp (fun (y140 : Int) => (oChain fLe fLe (some (0 : Int)) (some y140) (some z135_law_most))) (fun (y140 : Int) => (some y140)) (((o1 fTup (o2 fCons (o2 fSub (some x135.1) (some (1 : Int))) (o2 fCons (o2 fAdd (some x135.2) (some (1 : Int))) (some ([] : List Int)))))).map Tl.l)))).bind fun x_law_numbers => some x_law_numbers
def m_law_asked_l2 (z145_law_some : (Tl (Int × Int))) (s145 : Unit) (x145 : Int) : Option (Unit ⊕ Bool) := ((o2 m_has (some z145_law_some) (some x145))).bind fun x_law_found => ((oOr (oNot (o1 (fIs true) (some x_law_found))) (o2 fNe (some x_law_found) (o1 fAny (oComp (fun (y152 : (Int × Int)) => (some true)) (fun (y152 : (Int × Int)) => (oChain fLe fLe (some y152.1) (some x145) (some y152.2))) (((some z145_law_some)).map Tl.l)))))).bind fun b153 => if b153 = true then (((some false)).bind fun y155 => some (Sum.inr y155)) else (some (Sum.inl ()))
def m_law_asked (x_law_some : (Tl (Int × Int))) (x_law_most : Int) : Option Bool := ((o1 szOk (o2 fCons (some (0 : Int)) (o2 fCons (some x_law_most) (some ([] : List Int)))))).bind fun x_law_numbers => ((((some x_law_some)).map Tl.l)).bind fun xs135 => (foldO (m_law_asked_l1 x_law_most) x_law_numbers xs135).bind fun w135 => ((some w135)).bind fun xs145 => (loopM (m_law_asked_l2 x_law_some) () xs145).bind fun res145 => fin (fun w145 => ((o2 fNe (o1 m_size (some x_law_some)) (o1 fSum (oComp (fun (y158 : (Int × Int)) => (some true)) (fun (y158 : (Int × Int)) => (o2 fSub (o2 fAdd (some y158.2) (some (1 : Int))) (some y158.1))) (((some x_law_some)).map Tl.l))))).bind fun b159 => if b159 = true then (some false) else (o2 fEq (o1 m_least (some x_law_some)) (oIf (o2 fNe (some x_law_some) (o1 fTup (some ([] : List (Int × Int))))) (((o1 fFst (o2 fIxT (some x_law_some) (some (0 : Int))))).map some) (some (none : (Option Int)))))) res145
set_option maxHeartbeats 4000000 in
theorem ok_law_asked {P : Program} {w : World} {K : Fg} {mg : Str → Option Value} {base : Heap} (T : Txt K mg) : FnOk P w K mg base CX0 2 T.a_law_asked T.d_law_asked ["_law_some", "_law_most"] (PSb K (A2 K m_law_asked)) := by
  refine T.F_law_asked.ok sc_law_asked (fun vs H Q E h => ?_) (fun cdv A0 outer s H vs Q E hr h => ?_)
  · obtain ⟨r, ⟨v_law_some, v_law_most, x_law_some, x_law_most, rfl, r_law_some, r_law_most, hm⟩, q⟩ := h
    rfl
  · obtain ⟨r_fn, ⟨v_law_some, v_law_most, x_law_some, x_law_most, rfl, r_law_some, r_law_most, hm⟩, q⟩ := h
    refine ⟨_, (pss_cons (ps_set (i := 2) sc_law_asked.nd rfl (by first | exact Or.inl rfl | exact Or.inr rfl) (pe_lst (pa_cons pe_int (pa_cons (pv 1) pa_nil)))) (pss_cons (ps_for PassesOwn.never rfl (piT_K (K := K) rfl (pv 0)) (pg_tup rfl (pgs_cons (pg_name (i := 3) sc_law_asked.nd rfl (by first | exact Or.inl rfl | exact Or.inr rfl)) (pgs_cons (pg_name (i := 4) sc_law_asked.nd rfl (by first | exact Or.inl rfl | exact Or.inr rfl)) pgs_nil))) (pss_cons (ps_set (i := 2) sc_law_asked.nd rfl (by first | exact Or.inl rfl | exact Or.inr rfl) (pe_op op_cat (pe_op op_cat (pv 2) (pe_lst (pa_cons (pv 3) (pa_cons (pv 4) pa_nil)))) (pe_lc (own := [("_law_one", 7)]) (g := (gName 7)) rfl sc_law_asked.nd (piT_K (K := K) rfl (pe_tup (pa_cons (pe_op op_sub (pv 3) pe_int) (pa_cons (pe_op op_add (pv 4) pe_int) pa_nil)))) (blkOk_by (N := ["_law_some", "_law_most", "_law_numbers", "_law_low", "_law_high", "_law_number", "_law_found", "_law_one"]) (sc := defScope s_law_asked) (by decide +kernel)) (fun _ _ _ _ _ => by exact (pg_name (i := 7) sc_law_asked.nd rfl (by first | exact Or.inl rfl | exact Or.inr rfl))) (fun _ _ _ _ _ => by exact (pts_one (pt_chain op_le op_le pe_int (pv 7) (pv 1)))) (fun _ _ _ _ _ => by exact (pv 7))))) pss_nil)) (pss_cons (ps_for PassesOwn.never rfl (piL_K (K := K) rfl (pv 2)) (pg_name (i := 5) sc_law_asked.nd rfl (by first | exact Or.inl rfl | exact Or.inr rfl)) (pss_cons (ps_set (i := 6) sc_law_asked.nd rfl (by first | exact Or.inl rfl | exact Or.inr rfl) (pe_call (ok_has T) (hr.mono (by decide)) (by rfl) T.g_has T.F_has.kp T.b_has .nil pass0 (pa_cons (pv 0) (pa_cons (pv 5) pa_nil)))) (pss_cons (ps_if (PW.pt (pw_or (pt_not (pt_val (pe_callB (isi_K (K := K) rfl) (by rfl) T.n_isinstance bb_isinstance (pa_cons (pv 6) (pa_cons (pe_bltn (v := .ty "bool") (by rfl) T.n_bool bb_bool rfl) pa_nil))))) (pw_or1 (pt_cmpR (opNe_K (K := K) rfl hr.units) (pv 6) (pe_callB (cr_any rfl) (by rfl) T.n_any bb_any (pa_cons (pe_lc (own := [("_law_low", 3), ("_law_high", 4)]) (g := (gTup K 2 (gCons (gName 3) (gCons (gName 4) gNil)))) rfl sc_law_asked.nd (piT_K (K := K) rfl (pv 0)) (blkOk_by (N := ["_law_some", "_law_most", "_law_numbers", "_law_low", "_law_high", "_law_number", "_law_found", "_law_one"]) (sc := defScope s_law_asked) (by decide +kernel)) (fun _ _ _ _ _ => by exact (pg_tup rfl (pgs_cons (pg_name (i := 3) sc_law_asked.nd rfl (by first | exact Or.inl rfl | exact Or.inr rfl)) (pgs_cons (pg_name (i := 4) sc_law_asked.nd rfl (by first | exact Or.inl rfl | exact Or.inr rfl)) pgs_nil)))) (fun _ _ _ _ _ => by exact pts_nil) (fun _ _ _ _ _ => by exact (by exact pe_chain op_le op_le (pv 3) (pv 5) (pv 4)))) pa_nil)) (nomark _))))) (pss_cons (ps_ret pe_bl) pss_nil) pss_nil) pss_nil))) (pss_cons (ps_if (pt_cmpR (opNe_K (K := K) rfl hr.units) (pe_call (ok_size T) (hr.mono (by decide)) (by rfl) T.g_size T.F_size.kp T.b_size .nil pass0 (pa_cons (pv 0) pa_nil)) (pe_callB (cr_sum rfl) (by rfl) T.n_sum bb_sum (pa_cons (pe_lc (own := [("_law_low", 3), ("_law_high", 4)]) (g := (gTup K 2 (gCons (gName 3) (gCons (gName 4) gNil)))) rfl sc_law_asked.nd (piT_K (K := K) rfl (pv 0)) (blkOk_by (N := ["_law_some", "_law_most", "_law_numbers", "_law_low", "_law_high", "_law_number", "_law_found", "_law_one"]) (sc := defScope s_law_asked) (by decide +kernel)) (fun _ _ _ _ _ => by exact (pg_tup rfl (pgs_cons (pg_name (i := 3) sc_law_asked.nd rfl (by first | exact Or.inl rfl | exact Or.inr rfl)) (pgs_cons (pg_name (i := 4) sc_law_asked.nd rfl (by first | exact Or.inl rfl | exact Or.inr rfl)) pgs_nil)))) (fun _ _ _ _ _ => by exact pts_nil) (fun _ _ _ _ _ => by exact (pe_op op_sub (pe_op op_add (pv 4) pe_int) (pv 3)))) pa_nil)) (nomark _)) (pss_cons (ps_ret pe_bl) pss_nil) pss_nil) (pss_cons (ps_ret (pe_cmpR (opEq_K (K := K) rfl hr.units) (pe_call (ok_least T) (hr.mono (by decide)) (by rfl) T.g_least T.F_least.kp T.b_least .nil pass0 (pa_cons (pv 0) pa_nil)) (pe_ifExp (pt_cmpR (opNe_K (K := K) rfl hr.units) (pv 0) (pe_tup pa_nil) (nomark _)) (pe_ix (ixT_K (K := K) rfl) (pe_ix (ixT_K (K := K) rfl) (pv 0) pe_int (fun _ _ => rfl)) pe_int (fun _ _ => rfl)) pe_non) (nomark _))) pss_nil))))), ?_⟩
    unfold m_law_asked at hm
    obtain ⟨H0, e0, q⟩ := heapB q
    obtain ⟨G, A, r_law_some, r_law_most⟩ : exists G, At G H [] ∧ rp K G v_law_some x_law_some ∧ rp K G v_law_most x_law_most := ⟨H, At.nil H, r_law_some, r_law_most⟩
    obtain ⟨x_law_numbers, hx, hm⟩ := bnd hm
    refine st_asg (eo_lst (lo_cons ((eb_int (K := K))).own (lo_cons ((eb_v rfl (Rp.mono A.ex r_law_most))).own lo_nil))) hx A fun v_law_numbers G133 H134 g e A r_law_numbers => ?_
    replace r_law_some := Rp.mono g r_law_some
    replace r_law_most := Rp.mono g r_law_most
    replace e0 := e0.trans e
    obtain ⟨xs135, hx135, hm⟩ := bnd hm
    obtain ⟨w135, hl135, hm⟩ := bnd hm
    refine st_for (M := []) (i_tup (es_v rfl r_law_some A.ex (A.hM (by simp)))) hx135 fun J135 HL135 e wk135 => ?_
    replace A := A.grow e
    replace e0 := e0.trans e
    have eM135 : Gx (mns HL135 []) HL135 := mns_ex
    have gL135 : Gx G133 G133 := Gx.rfl
    refine fold_run wk135 hl135 (tg_p tg_n tg_n) (fun (s135 : (List Int)) (σ : L2.St) (H : Hp) => exists (Gi : Hp) (k_law_low : Option V) (k_law_high : Option V) (v_law_numbers : V), σ = [some v_law_some, some v_law_most, some v_law_numbers, k_law_low, k_law_high, none, none, none] ∧ Gx H0 H ∧ Gx (mns HL135 []) H ∧ Gx G133 Gi ∧ At Gi H [] ∧ rp K Gi v_law_numbers s135) (fun s σ H h => ?_) ?_ (fun s135 x135 o135 σ H139 H137 σ2 hxm hf hin e hb => ?_) (fun σ H144 hin => ?_)
    · obtain ⟨Gi, k_law_low, k_law_high, v_law_numbers, rfl, e0, eM135, gL135, A, r_law_numbers⟩ := h
      exact eM135
    · exact ⟨_, _, _, _, rfl, e0, eM135, gL135, A, r_law_numbers⟩
    · obtain ⟨G136, k_law_low, k_law_high, v_law_numbers, rfl, e0, eM135, gL135, A, r_law_numbers⟩ := hin
      obtain ⟨_, ⟨v_law_low, r_law_low, rfl⟩, ⟨v_law_high, r_law_high, rfl⟩⟩ := hb
      replace A := A.grow e
      replace e0 := e0.trans e
      replace eM135 := eM135.trans e
      replace r_law_some := Rp.mono gL135 r_law_some
      replace r_law_most := Rp.mono gL135 r_law_most
      have g := A.ex
      replace A := At.nil H137
      replace r_law_some := Rp.mono g r_law_some
      replace r_law_most := Rp.mono g r_law_most
      replace r_law_numbers := Rp.mono g r_law_numbers
      replace gL135 := gL135.trans g
      have hm := hf
      unfold m_law_asked_l1 at hm
      obtain ⟨x_law_numbers, hx, hm⟩ := bnd hm
      refine st_asg (eo_cat (eo_cat (eo_v rfl r_law_numbers) (eo_lst (lo_cons ((eb_v rfl (Rp.mono A.ex r_law_low))).own (lo_cons ((eb_v rfl (Rp.mono A.ex r_law_high))).own lo_nil)))) ((x_lc (i_tup (es_b (x_tup (l_cons (x_sub (eb_v rfl (Rp.mono A.ex r_law_low)) (eb_int (K := K))) (l_cons (x_add (eb_v rfl (Rp.mono A.ex r_law_high)) (eb_int (K := K))) (l_nil (K := K))))))) tg_n (bi_n (by decide)) (fun y140 σc Hc gh140 hb140 => by obtain ⟨c140v_law_one, c140r_law_one, rfl⟩ := hb140; exact (et_test (x_lele (eb_int (K := K)) (eb_v rfl c140r_law_one) (eb_v rfl (Rp.mono gh140 (Rp.mono A.ex r_law_most)))))) (fun y140 σc Hc gh140 hb140 => by obtain ⟨c140v_law_one, c140r_law_one, rfl⟩ := hb140; exact (eb_v rfl c140r_law_one)))).own) hx A fun v_law_numbers G141 H142 g e A r_law_numbers => ?_
      replace r_law_some := Rp.mono g r_law_some
      replace r_law_most := Rp.mono g r_law_most
      replace r_law_low := Rp.mono g r_law_low
      replace r_law_high := Rp.mono g r_law_high
      replace gL135 := gL135.trans g
      replace e0 := e0.trans e
      replace eM135 := eM135.trans e
      obtain rfl := Option.some.inj hm
      exact ⟨_, _, _, _, rfl, e0, eM135, gL135, A, r_law_numbers⟩
    · obtain ⟨G143, k_law_low, k_law_high, v_law_numbers, rfl, e0, eM135, gL135, A, r_law_numbers⟩ := hin
      replace r_law_some := Rp.mono gL135 r_law_some
      replace r_law_most := Rp.mono gL135 r_law_most
      obtain ⟨xs145, hx145, hm⟩ := bnd hm
      obtain ⟨res145, hl145, hm⟩ := bnd hm
      have hmL145 := hm
      refine st_for (M := []) (i_list (es_v rfl r_law_numbers A.ex (A.hM (by simp)))) hx145 fun J145 HL145 e wk145 => ?_
      replace A := A.grow e
      replace e0 := e0.trans e
      have eM145 : Gx (mns HL145 []) HL145 := mns_ex
      have gL145 : Gx G143 G143 := Gx.rfl
      refine loop_run wk145 hl145 tg_n (fun (s145 : Unit) (σ : L2.St) (H : Hp) => exists (Gi : Hp) (k_law_number : Option V) (k_law_found : Option V), σ = [some v_law_some, some v_law_most, some v_law_numbers, k_law_low, k_law_high, k_law_number, k_law_found, none] ∧ Gx H0 H ∧ Gx (mns HL145 []) H ∧ Gx G143 Gi ∧ At Gi H []) (fun s σ H h => ?_) ?_ (fun s145 x145 o145 σ H149 H147 σ2 hxm hf hr145 hin e hb => ?_) (fun w145 σ H157 hres hin => ?_)
      · obtain ⟨Gi, k_law_number, k_law_found, rfl, e0, eM145, gL145, A⟩ := h
        exact eM145
      · exact ⟨_, _, _, rfl, e0, eM145, gL145, A⟩
      · obtain ⟨G146, k_law_number, k_law_found, rfl, e0, eM145, gL145, A⟩ := hin
        obtain ⟨v_law_number, r_law_number, rfl⟩ := hb
        replace A := A.grow e
        replace e0 := e0.trans e
        replace eM145 := eM145.trans e
        replace r_law_some := Rp.mono gL145 r_law_some
        replace r_law_most := Rp.mono gL145 r_law_most
        replace r_law_numbers := Rp.mono gL145 r_law_numbers
        have g := A.ex
        replace A := At.nil H147
        replace r_law_some := Rp.mono g r_law_some
        replace r_law_most := Rp.mono g r_law_most
        replace r_law_numbers := Rp.mono g r_law_numbers
        replace gL145 := gL145.trans g
        have hm := hf
        unfold m_law_asked_l2 at hm
        have hret145 := fun r h => finr (r := r) (hr145 r h) hmL145
        obtain ⟨x_law_found, hx, hm⟩ := bnd hm
        refine st_asg ((eb_call (em2 (eb_v rfl (Rp.mono A.ex r_law_some)) (eb_v rfl (Rp.mono A.ex r_law_number))))).own hx A fun v_law_found G150 H151 g e A r_law_found => ?_
        replace r_law_some := Rp.mono g r_law_some
        replace r_law_most := Rp.mono g r_law_most
        replace r_law_numbers := Rp.mono g r_law_numbers
        replace r_law_number := Rp.mono g r_law_number
        replace gL145 := gL145.trans g
        replace e0 := e0.trans e
        replace eM145 := eM145.trans e
        obtain ⟨b153, hb153, hm⟩ := bnd hm
        refine st_if (et_or (et_not (et_b (x_isi (b := true) (by exact L2.kit_ty (by decide +kernel)) (eb_v rfl (Rp.mono A.ex r_law_found))))) (et_test (x_ne (by decide) (eb_v rfl (Rp.mono A.ex r_law_found)) (x_any ((x_lc (i_tup (es_b (eb_v rfl (Rp.mono A.ex r_law_some)))) (tg_p tg_n tg_n) (bi_p (bi_n (by decide)) (bi_n (by decide))) (fun y152 σc Hc gh152 hb152 => by obtain ⟨_, ⟨c152v_law_low, c152r_law_low, rfl⟩, ⟨c152v_law_high, c152r_law_high, rfl⟩⟩ := hb152; exact t_yes) (fun y152 σc Hc gh152 hb152 => by obtain ⟨_, ⟨c152v_law_low, c152r_law_low, rfl⟩, ⟨c152v_law_high, c152r_law_high, rfl⟩⟩ := hb152; exact (x_lele (eb_v rfl c152r_law_low) (eb_v rfl (Rp.mono gh152 (Rp.mono A.ex r_law_number))) (eb_v rfl c152r_law_high))))).b)))) hb153 (fun eb153 H154 e => ?_) (fun eb153 H154 e => ?_)
        · subst eb153
          replace hm := itt hm
          replace A := A.grow e
          replace e0 := e0.trans e
          replace eM145 := eM145.trans e
          obtain ⟨y155, hy155, hm⟩ := bnd hm
          have er := hret145 y155 (Option.some.inj hm).symm
          subst er
          exact sr_b (eb_bl (K := K)) hy155 fun w H e r => q w H (e0.trans e) r
        · subst eb153
          replace hm := itf hm
          replace A := A.grow e
          replace e0 := e0.trans e
          replace eM145 := eM145.trans e
          exact ⟨_, (Option.some.inj hm).symm, _, _, _, rfl, e0, eM145, gL145, A⟩
      · obtain ⟨G156, k_law_number, k_law_found, rfl, e0, eM145, gL145, A⟩ := hin
        replace r_law_some := Rp.mono gL145 r_law_some
        replace r_law_most := Rp.mono gL145 r_law_most
        replace r_law_numbers := Rp.mono gL145 r_law_numbers
        subst hres
        replace hm := finl hm
        obtain ⟨b159, hb159, hm⟩ := bnd hm
        refine st_if (et_test (x_ne (by decide) (eb_call (em1 (eb_v rfl (Rp.mono A.ex r_law_some)))) (x_sum ((x_lc (i_tup (es_b (eb_v rfl (Rp.mono A.ex r_law_some)))) (tg_p tg_n tg_n) (bi_p (bi_n (by decide)) (bi_n (by decide))) (fun y158 σc Hc gh158 hb158 => by obtain ⟨_, ⟨c158v_law_low, c158r_law_low, rfl⟩, ⟨c158v_law_high, c158r_law_high, rfl⟩⟩ := hb158; exact t_yes) (fun y158 σc Hc gh158 hb158 => by obtain ⟨_, ⟨c158v_law_low, c158r_law_low, rfl⟩, ⟨c158v_law_high, c158r_law_high, rfl⟩⟩ := hb158; exact (x_sub (x_add (eb_v rfl c158r_law_high) (eb_int (K := K))) (eb_v rfl c158r_law_low))))).b))) hb159 (fun eb159 H160 e => ?_) (fun eb159 H160 e => ?_)
        · subst eb159
          replace hm := itt hm
          replace A := A.grow e
          replace e0 := e0.trans e
          exact sr_b (eb_bl (K := K)) hm fun w H e r => q w H (e0.trans e) r
        · subst eb159
          replace hm := itf hm
          replace A := A.grow e
          replace e0 := e0.trans e
          exact sr_b (x_eq (by decide) (eb_call (em1 (eb_v rfl (Rp.mono A.ex r_law_some)))) (eb_if (et_test (x_ne (by decide) (eb_v rfl (Rp.mono A.ex r_law_some)) (x_tup (l_nil (K := K))))) (x_some (x_fst (x_ixT (eb_v rfl (Rp.mono A.ex r_law_some)) (eb_int (K := K))))) x_none)) hm fun w H e r => q w H (e0.trans e) r
/-! law -/
def m_law_l1 (z174_law_some : (Tl (Int × Int))) (z174_law_most : Int) (s174 : Unit) (x174 : Dy) : Option (Unit ⊕ Bool) := ((oOr (oNot (o2 m_law_alone (o3 m_law_told (some (0 : Int)) (some z174_law_most) (some x174)) (some (0 : Int)))) (o1 fNotNU ((o2 m_need_set (some z174_law_most) (((some z174_law_some)).map (ToY.to : (Tl (Int × Int)) -> Dy))).bind getL)))).bind fun b179 => if b179 = true then (((some false)).bind fun y181 => some (Sum.inr y181)) else (some (Sum.inl ()))
def m_law_l2 (z184_law_most : Int) (s184 : Unit) (x184 : Dy) : Option (Unit ⊕ Bool) := ((oNot (o2 m_law_alone (o3 m_law_told (some (1 : Int)) (some z184_law_most) (some x184)) (some (0 : Int))))).bind fun b189 => if b189 = true then (((some false)).bind fun y191 => some (Sum.inr y191)) else (some (Sum.inl ()))
def m_law (x_law_script : Scr) : Option Bool := ((o1 m_law_set (some x_law_script))).bind fun x_law_some => ((o2 m_law_mixed (o1 fSum (oComp (fun (y163 : Int) => (some true)) (fun (y163 : Int) => (o2 m_law_mixed (some y163) (some (3 : Int)))) (o3 fCutS (some x_law_script) (some none) (((some (60 : Int))).map some)))) (o2 fMod (o1 fLenS (some x_law_script)) (some (64 : Int))))).bind fun x_law_cell => ((o1 fSnd (o2 fIxT (o2 fCatT (some x_law_some) (o1 fTup (o2 fCons (o2 fPair (some (0 : Int)) (some (0 : Int))) (some ([] : List (Int × Int)))))) (o2 fMax (some (0 : Int)) (o2 fSub (o1 fLenT (some x_law_some)) (some (1 : Int))))))).bind fun x_law_most => ((o2 fMin (o2 fPow (some (10 : Int)) (some (12 : Int))) (o2 ix (o1 szOk (o2 fCons (some x_law_most) (o2 fCons (o2 fAdd (some x_law_most) (some (1 : Int))) (o2 fCons (o2 fAdd (some x_law_most) (o2 m_law_great (some x_law_cell) (some (4 : Int)))) (some ([] : List Int)))))) (o2 fMod (some x_law_cell) (some (3 : Int)))))).bind fun x_law_most => ((o2 fMod (o2 fDiv (some x_law_cell) (some (3 : Int))) (o2 fMax (some (1 : Int)) (o1 fLenT (some x_law_some))))).bind fun x_law_at => ((oOr (o1 fNotNU ((o2 m_need_set (some x_law_most) (((some x_law_some)).map (ToY.to : (Tl (Int × Int)) -> Dy))).bind getL)) (oNot (o2 m_law_asked (some x_law_some) (some x_law_most))))).bind fun b172 => if b172 = true then (some false) else (((o3 m_law_no_sets (some x_law_some) (some x_law_most) (some x_law_at))).bind fun xs174 => (loopM (m_law_l1 x_law_some x_law_most) () xs174).bind fun res174 => fin (fun w174 => ((o3 m_law_no_lists (some x_law_some) (some x_law_most) (some x_law_at))).bind fun xs184 => (loopM (m_law_l2 x_law_most) () xs184).bind fun res184 => fin (fun w184 => ((o1 fListT (some x_law_some))).bind fun x_law_handed => (((o2 m_set_of (some x_law_most) (((some x_law_handed)).map (ToY.to : (List (Int × Int)) -> Dy))).bind getL)).bind fun x_law_found => (oAnd (o2 fEq (some x_law_found) (some x_law_some)) (oAnd (o1 (fIs true) (some x_law_found)) (o2 fEq (some x_law_handed) (o1 fListT (some x_law_some)))))) res184) res174)
set_option maxHeartbeats 4000000 in
theorem ok_law {P : Program} {w : World} {K : Fg} {mg : Str → Option Value} {base : Heap} (T : Txt K mg) : FnOk P w K mg base CX0 5 T.a_law T.d_law ["_law_script"] (PSb K (A1 K m_law)) := by
  refine T.F_law.ok sc_law (fun vs H Q E h => ?_) (fun cdv A0 outer s H vs Q E hr h => ?_)
  · obtain ⟨r, ⟨v_law_script, x_law_script, rfl, r_law_script, hm⟩, q⟩ := h
    rfl
  · obtain ⟨r_fn, ⟨v_law_script, x_law_script, rfl, r_law_script, hm⟩, q⟩ := h
    refine ⟨_, (pss_cons (ps_set (i := 1) sc_law.nd rfl (by first | exact Or.inl rfl | exact Or.inr rfl) (pe_call (ok_law_set T) (hr.mono (by decide)) (by rfl) T.g_law_set T.F_law_set.kp T.b_law_set .nil pass0 (pa_cons (pv 0) pa_nil))) (pss_cons (ps_set (i := 2) sc_law.nd rfl (by first | exact Or.inl rfl | exact Or.inr rfl) (pe_call (ok_law_mixed T) (hr.mono (by decide)) (by rfl) T.g_law_mixed T.F_law_mixed.kp T.b_law_mixed .nil pass0 (pa_cons (pe_callB (cr_sum rfl) (by rfl) T.n_sum bb_sum (pa_cons (pe_lc (own := [("_law_cell", 2)]) (g := (gName 2)) rfl sc_law.nd (piL_K (K := K) rfl (pe_slice (slL_K (K := K) rfl) (pv 0) po_none (po_some pe_int))) (blkOk_by (N := ["_law_script", "_law_some", "_law_cell", "_law_most", "_law_at", "_law_thing", "_law_handed", "_law_found"]) (sc := defScope s_law) (by decide +kernel)) (fun _ _ _ _ _ => by exact (pg_name (i := 2) sc_law.nd rfl (by first | exact Or.inl rfl | exact Or.inr rfl))) (fun _ _ _ _ _ => by exact pts_nil) (fun _ _ _ _ _ => by exact (pe_call (ok_law_mixed T) (hr.mono (by decide)) (by rfl) T.g_law_mixed T.F_law_mixed.kp T.b_law_mixed .nil pass0 (pa_cons (pv 2) (pa_cons pe_int pa_nil))))) pa_nil)) (pa_cons (pe_op op_mod (pe_callB (len_K (K := K) rfl) (by rfl) T.n_len bb_len (pa_cons (pv 0) pa_nil)) pe_int) pa_nil)))) (pss_cons (ps_set (i := 3) sc_law.nd rfl (by first | exact Or.inl rfl | exact Or.inr rfl) (pe_ix (ixT_K (K := K) rfl) (pe_ix (ixT_K (K := K) rfl) (pe_op (catA_K (K := K) rfl) (pv 1) (pe_tup (pa_cons (pe_tup (pa_cons pe_int (pa_cons pe_int pa_nil))) pa_nil))) (pe_callB (call_max2 rfl) (by rfl) T.n_max bb_max (pa_cons pe_int (pa_cons (pe_op op_sub (pe_callB (len_K (K := K) rfl) (by rfl) T.n_len bb_len (pa_cons (pv 1) pa_nil)) pe_int) pa_nil))) (fun _ _ => rfl)) pe_int (fun _ _ => rfl))) (pss_cons (ps_set (i := 3) sc_law.nd rfl (by first | exact Or.inl rfl | exact Or.inr rfl) (pe_callB (call_min2 rfl) (by rfl) T.n_min bb_min (pa_cons (pe_op op_pow pe_int pe_int) (pa_cons (pe_ix (ixL_K (K := K) rfl) (pe_lst (pa_cons (pv 3) (pa_cons (pe_op op_add (pv 3) pe_int) (pa_cons (pe_op op_add (pv 3) (pe_call (ok_law_great T) (hr.mono (by decide)) (by rfl) T.g_law_great T.F_law_great.kp T.b_law_great .nil pass0 (pa_cons (pv 2) (pa_cons pe_int pa_nil)))) pa_nil)))) (pe_op op_mod (pv 2) pe_int) (fun _ _ => rfl)) pa_nil)))) (pss_cons (ps_set (i := 4) sc_law.nd rfl (by first | exact Or.inl rfl | exact Or.inr rfl) (pe_op op_mod (pe_op op_fdiv (pv 2) pe_int) (pe_callB (call_max2 rfl) (by rfl) T.n_max bb_max (pa_cons pe_int (pa_cons (pe_callB (len_K (K := K) rfl) (by rfl) T.n_len bb_len (pa_cons (pv 1) pa_nil)) pa_nil))))) (pss_cons (ps_if (PW.pt (pw_or (pt_cmpR op_notN (pe_callS (ok_need_set T) (hr.mono (by decide)) (by rfl) T.g_need_set T.F_need_set.kp T.b_need_set (fun σ => passAt takes0 σ) (pa_cons (pv 3) (pa_cons (pv 1) pa_nil))) pe_non (nomark _)) (pw_or1 (pt_not (pt_val (pe_call (ok_law_asked T) (hr.mono (by decide)) (by rfl) T.g_law_asked T.F_law_asked.kp T.b_law_asked .nil pass0 (pa_cons (pv 1) (pa_cons (pv 3) pa_nil)))))))) (pss_cons (ps_ret pe_bl) pss_nil) pss_nil) (pss_cons (ps_for PassesOwn.never rfl (piL_K (K := K) rfl (pe_call (ok_law_no_sets T) (hr.mono (by decide)) (by rfl) T.g_law_no_sets T.F_law_no_sets.kp T.b_law_no_sets .nil pass0 (pa_cons (pv 1) (pa_cons (pv 3) (pa_cons (pv 4) pa_nil))))) (pg_name (i := 5) sc_law.nd rfl (by first | exact Or.inl rfl | exact Or.inr rfl)) (pss_cons (ps_if (PW.pt (pw_or (pt_not (pt_val (pe_call (ok_law_alone T) (hr.mono (by decide)) (by rfl) T.g_law_alone T.F_law_alone.kp T.b_law_alone .nil pass0 (pa_cons (pe_call (ok_law_told T) (hr.mono (by decide)) (by rfl) T.g_law_told T.F_law_told.kp T.b_law_told .nil pass0 (pa_cons pe_int (pa_cons (pv 3) (pa_cons (pv 5) pa_nil)))) (pa_cons pe_int pa_nil))))) (pw_or1 (pt_cmpR op_notN (pe_callS (ok_need_set T) (hr.mono (by decide)) (by rfl) T.g_need_set T.F_need_set.kp T.b_need_set (fun σ => passAt takes0 σ) (pa_cons (pv 3) (pa_cons (pv 1) pa_nil))) pe_non (nomark _))))) (pss_cons (ps_ret pe_bl) pss_nil) pss_nil) pss_nil)) (pss_cons (ps_for PassesOwn.never rfl (piL_K (K := K) rfl (pe_call (ok_law_no_lists T) (hr.mono (by decide)) (by rfl) T.g_law_no_lists T.F_law_no_lists.kp T.b_law_no_lists .nil pass0 (pa_cons (pv 1) (pa_cons (pv 3) (pa_cons (pv 4) pa_nil))))) (pg_name (i := 5) sc_law.nd rfl (by first | exact Or.inl rfl | exact Or.inr rfl)) (pss_cons (ps_if (pt_not (pt_val (pe_call (ok_law_alone T) (hr.mono (by decide)) (by rfl) T.g_law_alone T.F_law_alone.kp T.b_law_alone .nil pass0 (pa_cons (pe_call (ok_law_told T) (hr.mono (by decide)) (by rfl) T.g_law_told T.F_law_told.kp T.b_law_told .nil pass0 (pa_cons pe_int (pa_cons (pv 3) (pa_cons (pv 5) pa_nil)))) (pa_cons pe_int pa_nil))))) (pss_cons (ps_ret pe_bl) pss_nil) pss_nil) pss_nil)) (pss_cons (ps_set (i := 6) sc_law.nd rfl (by first | exact Or.inl rfl | exact Or.inr rfl) (pe_callTy (lof_K (K := K) rfl) (by rfl) T.n_list bb_list (pa_cons (pv 1) pa_nil))) (pss_cons (ps_set (i := 7) sc_law.nd rfl (by first | exact Or.inl rfl | exact Or.inr rfl) (pe_callS (ok_set_of T) (hr.mono (by decide)) (by rfl) T.g_set_of T.F_set_of.kp T.b_set_of (fun σ => passAt takes0 σ) (pa_cons (pv 3) (pa_cons (pv 6) pa_nil)))) (pss_cons (ps_ret (pe_and (pe_cmpR (opEq_K (K := K) rfl hr.units) (pv 7) (pv 1) (nomark _)) (pe_and (pe_callB (isi_K (K := K) rfl) (by rfl) T.n_isinstance bb_isinstance (pa_cons (pv 7) (pa_cons (pe_bltn (v := .ty "tuple") (by rfl) T.n_tuple bb_tuple rfl) pa_nil))) (pe_one (pe_cmpR (opEq_K (K := K) rfl hr.units) (pv 6) (pe_callTy (lof_K (K := K) rfl) (by rfl) T.n_list bb_list (pa_cons (pv 1) pa_nil)) (nomark _)))))) pss_nil))))))))))), ?_⟩
    unfold m_law at hm
    obtain ⟨H0, e0, q⟩ := heapB q
    obtain ⟨G, A, r_law_script⟩ : exists G, At G H [] ∧ rp K G v_law_script x_law_script := ⟨H, At.nil H, r_law_script⟩
    obtain ⟨x_law_some, hx, hm⟩ := bnd hm
    refine st_asg ((eb_call (em1 (eb_v rfl (Rp.mono A.ex r_law_script))))).own hx A fun v_law_some G161 H162 g e A r_law_some => ?_
    replace r_law_script := Rp.mono g r_law_script
    replace e0 := e0.trans e
    obtain ⟨x_law_cell, hx, hm⟩ := bnd hm
    refine st_asg ((eb_call (em2 (x_sum ((x_lc (i_list (es_b ((x_cutS (eb_v rfl (Rp.mono A.ex r_law_script)) ep_none (ep_some (eb_int (K := K))))).b)) tg_n (bi_n (by decide)) (fun y163 σc Hc gh163 hb163 => by obtain ⟨c163v_law_cell, c163r_law_cell, rfl⟩ := hb163; exact t_yes) (fun y163 σc Hc gh163 hb163 => by obtain ⟨c163v_law_cell, c163r_law_cell, rfl⟩ := hb163; exact (eb_call (em2 (eb_v rfl c163r_law_cell) (eb_int (K := K))))))).b) (x_mod (x_lenS (eb_v rfl (Rp.mono A.ex r_law_script))) (eb_int (K := K)))))).own hx A fun v_law_cell G164 H165 g e A r_law_cell => ?_
    replace r_law_script := Rp.mono g r_law_script
    replace r_law_some := Rp.mono g r_law_some
    replace e0 := e0.trans e
    obtain ⟨x_law_most, hx, hm⟩ := bnd hm
    refine st_asg ((x_snd (x_ixT (x_catT (eb_v rfl (Rp.mono A.ex r_law_some)) (x_tup (l_cons (x_pair (eb_int (K := K)) (eb_int (K := K))) (l_nil (K := K))))) (x_max (eb_int (K := K)) (x_sub (x_lenT (eb_v rfl (Rp.mono A.ex r_law_some))) (eb_int (K := K))))))).own hx A fun v_law_most G166 H167 g e A r_law_most => ?_
    replace r_law_script := Rp.mono g r_law_script
    replace r_law_some := Rp.mono g r_law_some
    replace r_law_cell := Rp.mono g r_law_cell
    replace e0 := e0.trans e
    obtain ⟨x_law_most, hx, hm⟩ := bnd hm
    refine st_asg ((x_min (x_pow (eb_int (K := K)) (eb_int (K := K))) (x_ixL ((x_lst (l_cons (eb_v rfl (Rp.mono A.ex r_law_most)) (l_cons (x_add (eb_v rfl (Rp.mono A.ex r_law_most)) (eb_int (K := K))) (l_cons (x_add (eb_v rfl (Rp.mono A.ex r_law_most)) (eb_call (em2 (eb_v rfl (Rp.mono A.ex r_law_cell)) (eb_int (K := K))))) (l_nil (K := K))))))).b (x_mod (eb_v rfl (Rp.mono A.ex r_law_cell)) (eb_int (K := K)))))).own hx A fun v_law_most G168 H169 g e A r_law_most => ?_
    replace r_law_script := Rp.mono g r_law_script
    replace r_law_some := Rp.mono g r_law_some
    replace r_law_cell := Rp.mono g r_law_cell
    replace e0 := e0.trans e
    obtain ⟨x_law_at, hx, hm⟩ := bnd hm
    refine st_asg ((x_mod (x_div (eb_v rfl (Rp.mono A.ex r_law_cell)) (eb_int (K := K))) (x_max (eb_int (K := K)) (x_lenT (eb_v rfl (Rp.mono A.ex r_law_some)))))).own hx A fun v_law_at G170 H171 g e A r_law_at => ?_
    replace r_law_script := Rp.mono g r_law_script
    replace r_law_some := Rp.mono g r_law_some
    replace r_law_cell := Rp.mono g r_law_cell
    replace r_law_most := Rp.mono g r_law_most
    replace e0 := e0.trans e
    obtain ⟨b172, hb172, hm⟩ := bnd hm
    refine st_if (et_or (et_test (x_notNU (eb_callX (em2 (eb_v rfl (Rp.mono A.ex r_law_most)) (x_conv (f := (ToY.to : (Tl (Int × Int)) -> Dy)) (fun r => c_toY r) (eb_v rfl (Rp.mono A.ex r_law_some))))))) (et_not (et_b (eb_call (em2 (eb_v rfl (Rp.mono A.ex r_law_some)) (eb_v rfl (Rp.mono A.ex r_law_most))))))) hb172 (fun eb172 H173 e => ?_) (fun eb172 H173 e => ?_)
    · subst eb172
      replace hm := itt hm
      replace A := A.grow e
      replace e0 := e0.trans e
      exact sr_b (eb_bl (K := K)) hm fun w H e r => q w H (e0.trans e) r
    · subst eb172
      replace hm := itf hm
      replace A := A.grow e
      replace e0 := e0.trans e
      obtain ⟨xs174, hx174, hm⟩ := bnd hm
      obtain ⟨res174, hl174, hm⟩ := bnd hm
      have hmL174 := hm
      refine st_for (M := []) (i_list (es_b ((en_call (em3 (eb_v rfl (Rp.mono A.ex r_law_some)) (eb_v rfl (Rp.mono A.ex r_law_most)) (eb_v rfl (Rp.mono A.ex r_law_at))))).b)) hx174 fun J174 HL174 e wk174 => ?_
      replace A := A.grow e
      replace e0 := e0.trans e
      have eM174 : Gx (mns HL174 []) HL174 := mns_ex
      have gL174 : Gx G170 G170 := Gx.rfl
      refine loop_run wk174 hl174 tg_n (fun (s174 : Unit) (σ : L2.St) (H : Hp) => exists (Gi : Hp) (k_law_thing : Option V), σ = [some v_law_script, some v_law_some, some v_law_cell, some v_law_most, some v_law_at, k_law_thing, none, none] ∧ Gx H0 H ∧ Gx (mns HL174 []) H ∧ Gx G170 Gi ∧ At Gi H []) (fun s σ H h => ?_) ?_ (fun s174 x174 o174 σ H178 H176 σ2 hxm hf hr174 hin e hb => ?_) (fun w174 σ H183 hres hin => ?_)
      · obtain ⟨Gi, k_law_thing, rfl, e0, eM174, gL174, A⟩ := h
        exact eM174
      · exact ⟨_, _, rfl, e0, eM174, gL174, A⟩
      · obtain ⟨G175, k_law_thing, rfl, e0, eM174, gL174, A⟩ := hin
        obtain ⟨v_law_thing, r_law_thing, rfl⟩ := hb
        replace A := A.grow e
        replace e0 := e0.trans e
        replace eM174 := eM174.trans e
        replace r_law_script := Rp.mono gL174 r_law_script
        replace r_law_some := Rp.mono gL174 r_law_some
        replace r_law_cell := Rp.mono gL174 r_law_cell
        replace r_law_most := Rp.mono gL174 r_law_most
        replace r_law_at := Rp.mono gL174 r_law_at
        have g := A.ex
        replace A := At.nil H176
        replace r_law_script := Rp.mono g r_law_script
        replace r_law_some := Rp.mono g r_law_some
        replace r_law_cell := Rp.mono g r_law_cell
        replace r_law_most := Rp.mono g r_law_most
        replace r_law_at := Rp.mono g r_law_at
        replace gL174 := gL174.trans g
        have hm := hf
        unfold m_law_l1 at hm
        have hret174 := fun r h => finr (r := r) (hr174 r h) hmL174
        obtain ⟨b179, hb179, hm⟩ := bnd hm
        refine st_if (et_or (et_not (et_b (eb_call (em2 (eb_call (em3 (eb_int (K := K)) (eb_v rfl (Rp.mono A.ex r_law_most)) (eb_v rfl (Rp.mono A.ex r_law_thing)))) (eb_int (K := K)))))) (et_test (x_notNU (eb_callX (em2 (eb_v rfl (Rp.mono A.ex r_law_most)) (x_conv (f := (ToY.to : (Tl (Int × Int)) -> Dy)) (fun r => c_toY r) (eb_v rfl (Rp.mono A.ex r_law_some)))))))) hb179 (fun eb179 H180 e => ?_) (fun eb179 H180 e => ?_)
        · subst eb179
          replace hm := itt hm
          replace A := A.grow e
          replace e0 := e0.trans e
          replace eM174 := eM174.trans e
          obtain ⟨y181, hy181, hm⟩ := bnd hm
          have er := hret174 y181 (Option.some.inj hm).symm
          subst er
          exact sr_b (eb_bl (K := K)) hy181 fun w H e r => q w H (e0.trans e) r
        · subst eb179
          replace hm := itf hm
          replace A := A.grow e
          replace e0 := e0.trans e
          replace eM174 := eM174.trans e
          exact ⟨_, (Option.some.inj hm).symm, _, _, rfl, e0, eM174, gL174, A⟩
      · obtain ⟨G182, k_law_thing, rfl, e0, eM174, gL174, A⟩ := hin
        replace r_law_script := Rp.mono gL174 r_law_script
        replace r_law_some := Rp.mono gL174 r_law_some
        replace r_law_cell := Rp.mono gL174 r_law_cell
        replace r_law_most := Rp.mono gL174 r_law_most
        replace r_law_at := Rp.mono gL174 r_law_at
        subst hres
        replace hm := finl hm
        obtain ⟨xs184, hx184, hm⟩ := bnd hm
        obtain ⟨res184, hl184, hm⟩ := bnd hm
        have hmL184 := hm
        refine st_for (M := []) (i_list (es_b ((en_call (em3 (eb_v rfl (Rp.mono A.ex r_law_some)) (eb_v rfl (Rp.mono A.ex r_law_most)) (eb_v rfl (Rp.mono A.ex r_law_at))))).b)) hx184 fun J184 HL184 e wk184 => ?_
        replace A := A.grow e
        replace e0 := e0.trans e
        have eM184 : Gx (mns HL184 []) HL184 := mns_ex
        have gL184 : Gx G182 G182 := Gx.rfl
        refine loop_run wk184 hl184 tg_n (fun (s184 : Unit) (σ : L2.St) (H : Hp) => exists (Gi : Hp) (k_law_thing : Option V), σ = [some v_law_script, some v_law_some, some v_law_cell, some v_law_most, some v_law_at, k_law_thing, none, none] ∧ Gx H0 H ∧ Gx (mns HL184 []) H ∧ Gx G182 Gi ∧ At Gi H []) (fun s σ H h => ?_) ?_ (fun s184 x184 o184 σ H188 H186 σ2 hxm hf hr184 hin e hb => ?_) (fun w184 σ H193 hres hin => ?_)
        · obtain ⟨Gi, k_law_thing, rfl, e0, eM184, gL184, A⟩ := h
          exact eM184
        · exact ⟨_, _, rfl, e0, eM184, gL184, A⟩
        · obtain ⟨G185, k_law_thing, rfl, e0, eM184, gL184, A⟩ := hin
          obtain ⟨v_law_thing, r_law_thing, rfl⟩ := hb
          replace A := A.grow e
          replace e0 := e0.trans e
          replace eM184 := eM184.trans e
          replace r_law_script := Rp.mono gL184 r_law_script
          replace r_law_some := Rp.mono gL184 r_law_some
          replace r_law_cell := Rp.mono gL184 r_law_cell
          replace r_law_most := Rp.mono gL184 r_law_most
          replace r_law_at := Rp.mono gL184 r_law_at
          have g := A.ex
          replace A := At.nil H186
          replace r_law_script := Rp.mono g r_law_script
          replace r_law_some := Rp.mono g r_law_some
          replace r_law_cell := Rp.mono g r_law_cell
          replace r_law_most := Rp.mono g r_law_most
          replace r_law_at := Rp.mono g r_law_at
          replace gL184 := gL184.trans g
          have hm := hf
          unfold m_law_l2 at hm
          have hret184 := fun r h => finr (r := r) (hr184 r h) hmL184
          obtain ⟨b189, hb189, hm⟩ := bnd hm
          refine st_if (et_not (et_b (eb_call (em2 (eb_call (em3 (eb_int (K := K)) (eb_v rfl (Rp.mono A.ex r_law_most)) (eb_v rfl (Rp.mono A.ex r_law_thing)))) (eb_int (K := K)))))) hb189 (fun eb189 H190 e => ?_) (fun eb189 H190 e => ?_)
          · subst eb189
            replace hm := itt hm
            replace A := A.grow e
            replace e0 := e0.trans e
            replace eM184 := eM184.trans e
            obtain ⟨y191, hy191, hm⟩ := bnd hm
            have er := hret184 y191 (Option.some.inj hm).symm
            subst er
            exact sr_b (eb_bl (K := K)) hy191 fun w H e r => q w H (e0.trans e) r
          · subst eb189
            replace hm := itf hm
            replace A := A.grow e
            replace e0 := e0.trans e
            replace eM184 := eM184.trans e
            exact ⟨_, (Option.some.inj hm).symm, _, _, rfl, e0, eM184, gL184, A⟩
        · obtain ⟨G192, k_law_thing, rfl, e0, eM184, gL184, A⟩ := hin
          replace r_law_script := Rp.mono gL184 r_law_script
          replace r_law_some := Rp.mono gL184 r_law_some
          replace r_law_cell := Rp.mono gL184 r_law_cell
          replace r_law_most := Rp.mono gL184 r_law_most
          replace r_law_at := Rp.mono gL184 r_law_at
          subst hres
          replace hm := finl hm
          obtain ⟨x_law_handed, hx, hm⟩ := bnd hm
          refine st_asgE ((x_listT (eb_v rfl (Rp.mono A.ex r_law_some)))).b hx fun v_law_handed H195 e r_law_handed => ?_
          replace A := A.grow e
          have g := A.ex
          replace A := At.nil H195
          replace r_law_script := Rp.mono g r_law_script
          replace r_law_some := Rp.mono g r_law_some
          replace r_law_cell := Rp.mono g r_law_cell
          replace r_law_most := Rp.mono g r_law_most
          replace r_law_at := Rp.mono g r_law_at
          replace e0 := e0.trans e
          obtain ⟨x_law_found, hx, hm⟩ := bnd hm
          refine st_asg ((eb_callX (em2 (eb_v rfl (Rp.mono A.ex r_law_most)) (x_conv (f := (ToY.to : (List (Int × Int)) -> Dy)) (fun r => c_toY r) (eb_v rfl (Rp.mono A.ex r_law_handed)))))).own hx A fun v_law_found G196 H197 g e A r_law_found => ?_
          replace r_law_script := Rp.mono g r_law_script
          replace r_law_some := Rp.mono g r_law_some
          replace r_law_cell := Rp.mono g r_law_cell
          replace r_law_most := Rp.mono g r_law_most
          replace r_law_at := Rp.mono g r_law_at
          replace r_law_handed := Rp.mono g r_law_handed
          replace e0 := e0.trans e
          exact sr_b (eb_and (x_eq (by decide) (eb_v rfl (Rp.mono A.ex r_law_found)) (eb_v rfl (Rp.mono A.ex r_law_some))) (eb_and (x_isi (b := true) (by exact L2.kit_ty (by decide +kernel)) (eb_v rfl (Rp.mono A.ex r_law_found))) (x_eq (by decide) (eb_v rfl (Rp.mono A.ex r_law_handed)) ((x_listT (eb_v rfl (Rp.mono A.ex r_law_some)))).b))) hm fun w H e r => q w H (e0.trans e) r
end Law

set_option Elab.async false
set_option linter.all false
set_option maxRecDepth 100000
namespace Law
open PySem PySem.Spec PyProof.Rows L2 Pu
open Pu.Rp (rp)
theorem mixed_ok (c k : Int) : exists v, m_law_mixed c k = some v ∧ 0 ≤ v ∧ v < 1000003 := by
  have h0 : (0 : Int) < 1000003 := by decide
  have b1 := Int.emod_nonneg (c * 48271 + 7919 * k + 11) (show (1000003 : Int) ≠ 0 by decide)
  have b2 := Int.emod_lt_of_pos (c * 48271 + 7919 * k + 11) h0
  unfold m_law_mixed
  simp only [o2, Option.bind_some, fAdd]
  rw [fMul_1 (i := c) (j := 48271) (by omega), fMul_1 (i := 7919) (j := k) (by omega)]
  simp only [Option.bind_some]
  rw [fMod_1 h0]
  generalize (c * 48271 + 7919 * k + 11) % 1000003 = n at b1 b2
  simp only [Option.bind_some]
  rw [fMul_1 (i := n) (j := n) (by omega)]
  simp only [Option.bind_some]
  rw [fMod_1 h0]
  simp only [Option.bind_some]
  rw [fMul_1 (i := n * n % 1000003) (j := n) (by omega)]
  simp only [Option.bind_some]
  rw [fMod_1 h0]
  exact ⟨_, rfl, Int.emod_nonneg _ (show (1000003 : Int) ≠ 0 by decide), Int.emod_lt_of_pos _ h0⟩
theorem great_ok (c k : Int) : exists v, m_law_great c k = some v ∧ 0 ≤ v ∧ v < 1000000000000 := by
  obtain ⟨a, ea, a0, a1⟩ := mixed_ok c k
  obtain ⟨b, eb, b0, b1⟩ := mixed_ok c (k + 500)
  refine ⟨(a * 1000003 + b) % 1000000000000, ?_, Int.emod_nonneg _ (by decide), Int.emod_lt_of_pos _ (by decide)⟩
  unfold m_law_great
  simp only [o2, Option.bind_some, fAdd, ea, eb]
  rw [fMul_1 (by omega), show fPow 10 12 = some 1000000000000 from rfl]
  simp only [Option.bind_some]
  rw [fMod_1 (by decide)]
theorem sum_nn : forall {r : List Int}, (forall y, y ∈ r -> 0 ≤ y) -> 0 ≤ r.sum
  | [], _ => by simp
  | x :: r, h => by
    have := sum_nn fun y hy => h y (List.mem_cons_of_mem x hy)
    have := h x List.mem_cons_self
    simp only [List.sum_cons]
    omega
theorem fNeg_1 : o1 fNeg (some (1 : Int)) = some (-1) := rfl
theorem mstep_nil (x : Int × Int) : m_merged_l1 [] x = some [x] := rfl
theorem mstep (s : List (Int × Int)) (l x : Int × Int) (h : s.length ≤ 1000) : m_merged_l1 (s ++ [l]) x = some (if x.1 ≤ l.2 + 1 then s ++ [(l.1, imax l.2 x.2)] else s ++ [l] ++ [x]) := by
  unfold m_merged_l1
  have ht : fTru (s ++ [l]) = some true := by unfold fTru; simp
  rw [fNeg_1]
  simp only [o1, o2, oAnd, Option.bind_some, ht, ix_last, fSnd, fAdd, fLe, if_true, fPop_last, fPair, fMax, fApp]
  by_cases c : x.1 ≤ l.2 + 1
  · rw [if_pos c, if_pos (decide_eq_true c), if_pos (by omega)]
    rfl
  · rw [if_neg c, if_neg (by simpa using c), if_pos (by simp; omega)]
    rfl
theorem merged_fold : forall (xs s : List (Int × Int)), Nrm s -> (forall p, p ∈ xs -> p.1 ≤ p.2) -> xs.Pairwise (fun p q => p.1 ≤ q.1) -> (forall p, p ∈ s -> forall x, x ∈ xs -> p.1 ≤ x.1) -> s.length + xs.length ≤ 1000 ->
    exists t, foldO m_merged_l1 s xs = some t ∧ Nrm t ∧ (forall n, inn t n ↔ inn s n ∨ inn xs n) ∧ t.length ≤ s.length + xs.length
  | [], s, h, _, _, _, _ => ⟨s, rfl, h, fun n => ⟨.inl, fun a => a.elim id fun a => (inn_nil a).elim⟩, Nat.le_refl _⟩
  | x :: xs, s, h, hp, hw, hs, hl => by
    have hp' : forall p, p ∈ xs -> p.1 ≤ p.2 := fun p h => hp p (List.mem_cons_of_mem _ h)
    have hx := hp x List.mem_cons_self
    obtain ⟨hw1, hw2⟩ := List.pairwise_cons.mp hw
    simp only [List.length_cons] at hl
    have main : exists s', m_merged_l1 s x = some s' ∧ Nrm s' ∧ (forall p, p ∈ s' -> forall y, y ∈ xs -> p.1 ≤ y.1) ∧ s'.length ≤ s.length + 1 ∧ forall n, inn s' n ↔ inn s n ∨ (x.1 ≤ n ∧ n ≤ x.2) := by
      rcases snoc s with rfl | ⟨s0, l, rfl⟩
      · refine ⟨[x], mstep_nil x, ⟨fun p hp => by rw [List.mem_singleton.mp hp]; exact hx, List.pairwise_singleton _ _⟩, fun p hp y hy => by rw [List.mem_singleton.mp hp]; exact hw1 y hy, by simp, fun n => ?_⟩
        rw [inn_one]
        exact ⟨.inr, fun a => a.elim (fun a => (inn_nil a).elim) id⟩
      · have hl0 : s0.length ≤ 1000 := by simp at hl; omega
        obtain ⟨a1, a2⟩ := h.last
        have lx : l.1 ≤ x.1 := hs l (by simp) x List.mem_cons_self
        have mx := @imax_le l.2 x.2
        rw [mstep s0 l x hl0]
        refine ⟨_, rfl, ?_⟩
        by_cases c : x.1 ≤ l.2 + 1
        · rw [if_pos c]
          refine ⟨h.init.snoc (by simp only; omega) a2, fun p hp y hy => ?_, by simp, fun n => ?_⟩
          · rcases List.mem_append.mp hp with hp | hp
            · exact hs p (List.mem_append_left _ hp) y (List.mem_cons_of_mem _ hy)
            · rw [List.mem_singleton.mp hp]
              exact hs l (by simp) y (List.mem_cons_of_mem _ hy)
          · rw [inn_app, inn_app, inn_one, inn_one]
            simp only
            constructor
            · rintro (a | a)
              · exact .inl (.inl a)
              · by_cases d : n ≤ l.2
                · exact .inl (.inr ⟨a.1, d⟩)
                · exact .inr (by omega)
            · rintro ((a | a) | a)
              · exact .inl a
              · exact .inr (by omega)
              · exact .inr (by omega)
        · rw [if_neg c]
          refine ⟨h.snoc hx fun q hq => ?_, fun p hp y hy => ?_, by simp, fun n => by rw [inn_app, inn_one]⟩
          · rcases List.mem_append.mp hq with hq | hq
            · have := a2 q hq; omega
            · rw [List.mem_singleton.mp hq]; omega
          · rcases List.mem_append.mp hp with hp | hp
            · exact hs p hp y (List.mem_cons_of_mem _ hy)
            · rw [List.mem_singleton.mp hp]; exact hw1 y hy
    obtain ⟨s', e, n1, n2, n3, n4⟩ := main
    obtain ⟨t, e2, t1, t2, t3⟩ := merged_fold xs s' n1 hp' hw2 n2 (by omega)
    refine ⟨t, ?_, t1, fun n => ?_, by simp only [List.length_cons]; omega⟩
    · unfold foldO
      rw [e]
      exact e2
    · rw [t2, n4, inn_cons]
      exact or_assoc
theorem merged_ok (xs : List (Int × Int)) (hp : forall p, p ∈ xs -> p.1 ≤ p.2) (hw : xs.Pairwise (fun p q => p.1 ≤ q.1)) (hl : xs.length ≤ 1000) :
    exists t, m_merged xs = some ⟨t⟩ ∧ Nrm t ∧ (forall n, inn t n ↔ inn xs n) ∧ t.length ≤ xs.length := by
  obtain ⟨t, e, a, b, c⟩ := merged_fold xs [] Nrm.nil hp hw (fun _ h => nomatch h) (by simpa using hl)
  refine ⟨t, ?_, a, fun n => (b n).trans ⟨fun h => h.elim (fun h => (inn_nil h).elim) id, .inr⟩, by simpa using c⟩
  unfold m_merged
  simp only [Option.bind_some, e, o1, fTuple]
def Wd (most : Int) (L : List (Int × Int)) : Prop := forall p, p ∈ L -> 0 ≤ p.1 ∧ p.1 ≤ p.2 ∧ p.2 ≤ most
def inb (L : List (Int × Int)) (n : Int) : Bool := L.any fun p => decide (p.1 ≤ n) && decide (n ≤ p.2)
theorem inb_iff {L : List (Int × Int)} {n : Int} : inb L n = true ↔ inn L n := by
  unfold inb inn
  rw [List.any_eq_true]
  simp
def sz (L : List (Int × Int)) : Int := (L.map fun p => p.2 - p.1 + 1).sum
def hd (L : List (Int × Int)) : Option Int := L.head?.map (·.1)
theorem any_all {I : Type} {f : I -> Option Bool} {g : I -> Bool} {xs : List I} (hl : xs.length ≤ 90000) (h : forall x, x ∈ xs -> f x = some (g x)) : oComp (fun _ => some true) f (some xs) = some (xs.map g) := by
  unfold oComp lim
  rw [Option.bind_some, if_pos (by omega), Option.bind_some]
  exact comp_all (fun _ _ => rfl) h
theorem loop_unit {I : Type} {f : Unit -> I -> Option (Unit ⊕ Bool)} : forall {xs : List I}, (forall x, x ∈ xs -> f () x = some (.inl ())) -> loopM f () xs = some (.inl ())
  | [], _ => rfl
  | x :: xs, h => by
    unfold loopM
    rw [h x List.mem_cons_self]
    exact loop_unit fun y hy => h y (List.mem_cons_of_mem _ hy)
theorem cutM_1 {A : Type} (xs : List A) : cutM xs (some 1) none = xs.drop 1 := by
  cases xs with
  | nil => rfl
  | cons x r =>
    unfold cutM
    simp [HT.sIx]

theorem comp_ff {I A : Type} {c : I -> Option Bool} {f : I -> Option A} {c' : I -> Bool} {g : I -> A} : forall {xs : List I}, (forall x, x ∈ xs -> c x = some (c' x)) -> (forall x, x ∈ xs -> f x = some (g x)) -> comp c f xs = some ((xs.filter c').map g)
  | [], _, _ => rfl
  | x :: xs, hc, h => by
    unfold comp
    rw [hc x List.mem_cons_self, Option.bind_some, comp_ff (fun y hy => hc y (List.mem_cons_of_mem _ hy)) fun y hy => h y (List.mem_cons_of_mem _ hy), h x List.mem_cons_self, List.filter_cons]
    cases c' x <;> rfl
theorem oComp_ff {I A : Type} {c : I -> Option Bool} {f : I -> Option A} {c' : I -> Bool} {g : I -> A} {xs : List I} (hl : xs.length ≤ 90000) (hc : forall x, x ∈ xs -> c x = some (c' x)) (h : forall x, x ∈ xs -> f x = some (g x)) : oComp c f (some xs) = some ((xs.filter c').map g) := by
  unfold oComp lim
  rw [Option.bind_some, if_pos (by omega), Option.bind_some]
  exact comp_ff hc h
theorem size_ok (L : List (Int × Int)) (hl : L.length ≤ 1000) : m_size ⟨L⟩ = some (sz L) := by
  unfold m_size
  rw [Option.map_some, oComp_ff (c := fun _ : Int × Int => some true) (f := fun y : Int × Int => o2 fAdd (o2 fSub (some y.2) (some y.1)) (some (1 : Int))) (c' := fun _ => true) (g := fun p : Int × Int => p.2 - p.1 + 1) (by simp only; omega) (fun _ _ => rfl) (fun _ _ => rfl)]
  rw [show (⟨L⟩ : Tl (Int × Int)).l.filter (fun _ => true) = L by simp]
  rfl
theorem least_ok (L : List (Int × Int)) : m_least ⟨L⟩ = some (hd L) := by
  unfold m_least
  cases L with
  | nil => rfl
  | cons p r =>
    have e : ix (p :: r) 0 = some p := atI_nat (j := 0) rfl
    simp [oIf, o1, o2, fTruT, fIxT, e, fFst, hd]
theorem nrm_ix {L : List (Int × Int)} (h : Nrm L) {i j : Nat} {p q : Int × Int} (hi : L[i]? = some p) (hj : L[j]? = some q) (lt : i < j) : p.2 + 1 < q.1 := by
  obtain ⟨a, e1⟩ := List.getElem?_eq_some_iff.mp hi
  obtain ⟨b, e2⟩ := List.getElem?_eq_some_iff.mp hj
  have := List.pairwise_iff_getElem.mp h.2 i j a b lt
  rw [e1, e2] at this
  exact this
theorem has_run (L : List (Int × Int)) (h : Nrm L) (x : Int) : forall (n b e : Nat), e - b < n -> b ≤ e -> e ≤ L.length -> (forall i p, i < b -> L[i]? = some p -> p.2 < x) -> (forall i p, e ≤ i -> L[i]? = some p -> x ≤ p.2) ->
    exists k : Nat, whileO (m_has_c1 ⟨L⟩ x) (m_has_l1 ⟨L⟩ x) n ((b : Int), (e : Int)) = some ((k : Int), (k : Int)) ∧ k ≤ L.length ∧ (forall i p, i < k -> L[i]? = some p -> p.2 < x) ∧ (forall i p, k ≤ i -> L[i]? = some p -> x ≤ p.2)
  | 0, b, e, hn, _, _, _, _ => by omega
  | n + 1, b, e, hn, hbe, hel, h1, h2 => by
    unfold whileO
    rw [show m_has_c1 ⟨L⟩ x ((b : Int), (e : Int)) = some (decide ((b : Int) < (e : Int))) from rfl, Option.bind_some]
    by_cases c : (b : Int) < (e : Int)
    · rw [if_pos (decide_eq_true c)]
      have hm : ((b : Int) + (e : Int)) / 2 = (((b + e) / 2 : Nat) : Int) := by omega
      have ml : (b + e) / 2 < L.length := by omega
      have em := List.getElem?_eq_getElem ml
      have ex : ix L (((b + e) / 2 : Nat) : Int) = some L[(b + e) / 2] := atI_nat em
      have pm := h.1 _ (List.getElem_mem ml)
      have step : m_has_l1 ⟨L⟩ x ((b : Int), (e : Int)) = some (if L[(b + e) / 2].2 < x then ((((b + e) / 2 + 1 : Nat) : Int), (e : Int)) else ((b : Int), (((b + e) / 2 : Nat) : Int))) := by
        unfold m_has_l1
        simp only [o2, o1, Option.bind_some, fAdd, fDiv_1 (show (0 : Int) < 2 ∧ (2 : Int) < 1073741824 by decide), hm, fIxT, ex, fSnd, fLt]
        by_cases d : L[(b + e) / 2].2 < x
        · simp only [d, decide_true, if_true]
          rfl
        · simp only [d, decide_false, if_false, Bool.false_eq_true]
      rw [step, Option.bind_some]
      by_cases d : L[(b + e) / 2].2 < x
      · rw [if_pos d]
        refine has_run L h x n ((b + e) / 2 + 1) e (by omega) (by omega) hel (fun i p hi hp => ?_) h2
        rcases Nat.lt_or_ge i ((b + e) / 2) with g | g
        · have := nrm_ix h hp em g
          omega
        · have : i = (b + e) / 2 := by omega
          subst this
          rw [em] at hp
          cases hp
          exact d
      · rw [if_neg d]
        refine has_run L h x n b ((b + e) / 2) (by omega) (by omega) (by omega) h1 fun i p hi hp => ?_
        rcases Nat.lt_or_ge ((b + e) / 2) i with g | g
        · have := nrm_ix h em hp g
          have := h.1 p (List.mem_of_getElem? hp)
          omega
        · have : i = (b + e) / 2 := by omega
          subst this
          rw [em] at hp
          cases hp
          omega
    · rw [if_neg (by simpa using c)]
      have : b = e := by omega
      subst this
      exact ⟨b, rfl, hel, h1, h2⟩
theorem has_ok (L : List (Int × Int)) (h : Nrm L) (x : Int) : m_has ⟨L⟩ x = some (inb L x) := by
  obtain ⟨k, e, kl, k1, k2⟩ := has_run L h x (L.length + 1) 0 L.length (by omega) (by omega) (Nat.le_refl _) (fun i p hi => by omega) (fun i p hi hp => by
    have := (List.getElem?_eq_some_iff.mp hp).1
    omega)
  unfold m_has
  rw [Option.bind_some, show o1 fLenT (some (⟨L⟩ : Tl (Int × Int))) = some (L.length : Int) from rfl, Option.bind_some]
  rw [show ((0 : Int), (L.length : Int)) = (((0 : Nat) : Int), (L.length : Int)) from rfl, e, Option.bind_some]
  simp only [o2, Option.bind_some, fLt, oAnd, fIxT]
  by_cases c : (k : Int) < (L.length : Int)
  · have kk : k < L.length := by omega
    have em := List.getElem?_eq_getElem kk
    have ex : ix L (k : Int) = some L[k] := atI_nat em
    simp only [c, decide_true, if_true, ex, o1, Option.bind_some, fFst, fLe]
    congr 1
    rw [Bool.eq_iff_iff, decide_eq_true_eq, inb_iff]
    have q2 := k2 k _ (Nat.le_refl _) em
    constructor
    · exact fun z => ⟨_, List.getElem_mem kk, z, q2⟩
    · rintro ⟨p, hp, a, b⟩
      obtain ⟨i, hi⟩ := List.getElem?_of_mem hp
      rcases Nat.lt_trichotomy i k with g | g | g
      · have := k1 i p g hi; omega
      · subst g
        rw [em] at hi
        cases hi
        exact a
      · have := nrm_ix h em hi g; omega
  · simp only [c, decide_false, if_false, Bool.false_eq_true]
    congr 1
    rw [eq_comm, ← Bool.not_eq_true, inb_iff]
    rintro ⟨p, hp, a, b⟩
    obtain ⟨i, hi⟩ := List.getElem?_of_mem hp
    have il := (List.getElem?_eq_some_iff.mp hi).1
    have := k1 i p (by omega) hi
    omega
end Law

set_option Elab.async false
set_option linter.all false
set_option maxRecDepth 100000
namespace Law
open PySem PySem.Spec PyProof.Rows L2 Pu
open Pu.Rp (rp)
/-! what is a stretch -/
def wt (most : Int) : Dy -> Bool
  | .int a => decide (0 ≤ a) && decide (a ≤ most)
  | _ => false
theorem isY_int (a : Int) : isY "int" (.int a) = true ∧ isY "bool" (.int a) = false := ⟨by simp [isY, isN, nmY], by simp [isY, isN, nmY]⟩
theorem whole_y (most : Int) (d : Dy) : m_whole_to most d = some (wt most d) := by
  unfold m_whole_to
  cases d with
  | int a =>
    simp only [o1, Option.bind_some, fIsY, (isY_int a).1, (isY_int a).2, oAnd, oNot, if_true, Bool.not_false, yInt, oChain, fLe, wt]
    by_cases h : 0 ≤ a <;> simp [h]
  | bl b => simp [o1, fIsY, isY, isN, nmY, oAnd, oNot, wt]
  | non => simp [o1, fIsY, isY, isN, nmY, oAnd, wt]
  | str s => simp [o1, fIsY, isY, isN, nmY, oAnd, wt]
  | dct => simp [o1, fIsY, isY, isN, nmY, oAnd, wt]
  | tup s => simp [o1, fIsY, isY, isN, nmY, oAnd, wt]
  | lst s => simp [o1, fIsY, isY, isN, nmY, oAnd, wt]
def stOk (most : Int) : Dy -> Bool
  | .tup [x, y] => wt most x && (wt most y && (match x, y with | .int a, .int b => decide (a ≤ b) | _, _ => false))
  | _ => false
theorem wt_int {most : Int} {d : Dy} (h : wt most d = true) : exists a, d = .int a ∧ 0 ≤ a ∧ a ≤ most := by
  cases d <;> simp [wt] at h
  exact ⟨_, rfl, h.1, h.2⟩
theorem st_y (most : Int) (d : Dy) : m_is_stretch most d = some (stOk most d) := by
  unfold m_is_stretch
  cases d with
  | tup xs =>
    have ht : isY "tuple" (.tup xs) = true := by simp [isY, isN, nmY]
    simp only [o1, Option.bind_some, fIsY, ht, oNot, oOr, Bool.not_true, Bool.false_eq_true, if_false, yLenT, o2, fNe]
    match xs with
    | [] => simp [stOk]
    | [x] => simp [stOk]
    | [x, y] =>
      simp only [List.length_cons, List.length_nil, yPair, Option.bind_some, whole_y, oAnd, stOk]
      rw [show decide ((((0 + 1 + 1 : Nat)) : Int) = 2) = true from rfl]
      simp only [Bool.not_true, Bool.false_eq_true, if_false]
      cases h1 : wt most x with
      | false => simp
      | true =>
        cases h2 : wt most y with
        | false => simp
        | true =>
          obtain ⟨a, rfl, _⟩ := wt_int h1
          obtain ⟨b, rfl, _⟩ := wt_int h2
          simp [yInt, fLe]
    | x :: y :: z :: r =>
      rw [if_pos (show (!decide ((((x :: y :: z :: r).length : Nat) : Int) = 2)) = true by rw [decide_eq_false (by simp only [List.length_cons]; omega)]; rfl)]
      rfl
  | _ => simp [o1, fIsY, isY, isN, nmY, oNot, oOr, stOk]
theorem st_pair {most : Int} {d : Dy} (h : stOk most d = true) : exists a b, d = .tup [.int a, .int b] ∧ 0 ≤ a ∧ a ≤ b ∧ b ≤ most := by
  unfold stOk at h
  split at h
  · simp only [Bool.and_eq_true] at h
    obtain ⟨h1, h2, h3⟩ := h
    obtain ⟨a, rfl, a0, a1⟩ := wt_int h1
    obtain ⟨b, rfl, b0, b1⟩ := wt_int h2
    exact ⟨a, b, rfl, a0, by simpa using h3, b1⟩
  · cases h
theorem st_of {most a b : Int} (h : 0 ≤ a ∧ a ≤ b ∧ b ≤ most) : stOk most (.tup [.int a, .int b]) = true := by
  simp only [stOk, wt, Bool.and_eq_true, decide_eq_true_eq]
  omega
/-! need_set -/
theorem need_bad {most f : Int} {x : Dy} (h : stOk most x = false) : m_need_set_l1 most f x = some (.inr (.inr "BadSet")) := by
  unfold m_need_set_l1
  simp only [o2, Option.bind_some, st_y, h, oNot, Bool.not_false, if_true]
theorem need_st {most f a b : Int} (h : stOk most (.tup [.int a, .int b]) = true) : m_need_set_l1 most f (.tup [.int a, .int b]) = some (if a < f then .inr (.inr "BadSet") else .inl (b + 2)) := by
  unfold m_need_set_l1
  simp only [o2, o1, Option.bind_some, st_y, h, oNot, Bool.not_true, Bool.false_eq_true, if_false, yPair, yInt, fLt, fAdd]
  by_cases c : a < f <;> simp [c]
def chk (most : Int) : Int -> List Dy -> Bool
  | _, [] => true
  | f, x :: xs => match x with
    | .tup [.int a, .int b] => stOk most (.tup [.int a, .int b]) && decide (f ≤ a) && chk most (b + 2) xs
    | _ => false
theorem need_loop (most : Int) : forall (xs : List Dy) (f : Int), exists s, loopM (m_need_set_l1 most) f xs = some (if chk most f xs = true then .inl s else .inr (.inr "BadSet"))
  | [], f => ⟨f, rfl⟩
  | x :: xs, f => by
    cases h : stOk most x with
    | false =>
      refine ⟨0, ?_⟩
      unfold loopM
      rw [need_bad h]
      have : chk most f (x :: xs) = false := by
        unfold chk
        split
        · rename_i a b
          rw [h]; rfl
        · rfl
      rw [this]
      rfl
    | true =>
      obtain ⟨a, b, rfl, _⟩ := st_pair h
      unfold loopM
      rw [need_st h]
      by_cases c : a < f
      · refine ⟨0, ?_⟩
        have : chk most f (.tup [.int a, .int b] :: xs) = false := by
          show (stOk most _ && decide (f ≤ a) && _) = false
          rw [decide_eq_false (by omega)]
          simp
        rw [this, if_pos c]
        rfl
      · obtain ⟨s, hs⟩ := need_loop most xs (b + 2)
        refine ⟨s, ?_⟩
        have : chk most f (.tup [.int a, .int b] :: xs) = chk most (b + 2) xs := by
          show (stOk most _ && decide (f ≤ a) && _) = _
          rw [h, decide_eq_true (by omega)]
          simp
        rw [this, if_neg c]
        exact hs
def setY (most : Int) : Dy -> Bool
  | .tup xs => chk most 0 xs
  | _ => false
theorem need_y (most : Int) (d : Dy) : m_need_set most d = some (if setY most d = true then .inl () else .inr "BadSet") := by
  unfold m_need_set
  cases d with
  | tup xs =>
    have ht : isY "tuple" (.tup xs) = true := by simp [isY, isN, nmY]
    obtain ⟨s, hs⟩ := need_loop most xs 0
    simp only [o1, Option.bind_some, fIsY, ht, oNot, Bool.not_true, Bool.false_eq_true, if_false, yTl, Option.map_some, hs, setY]
    by_cases c : chk most 0 xs = true <;> simp [c, fin]
  | _ => simp [o1, fIsY, isY, isN, nmY, oNot, setY]
theorem chk_st {most : Int} : forall {xs : List Dy} {f : Int}, chk most f xs = true -> forall x, x ∈ xs -> stOk most x = true
  | [], _, _, x, hx => nomatch hx
  | y :: ys, f, h, x, hx => by
    unfold chk at h
    split at h
    · simp only [Bool.and_eq_true] at h
      rcases List.mem_cons.mp hx with rfl | hx
      · exact h.1.1
      · exact chk_st h.2 x hx
    · cases h
theorem chk_app {most : Int} {ys : List Dy} : forall {xs : List Dy} {f : Int}, chk most f (xs ++ ys) = true -> exists g, chk most g ys = true
  | [], f, h => ⟨f, h⟩
  | x :: xs, f, h => by
    rw [List.cons_append] at h
    unfold chk at h
    split at h
    · simp only [Bool.and_eq_true] at h
      exact chk_app h.2
    · cases h
theorem chk_two {most a b c d : Int} {xs ys : List Dy} {f : Int} (h : c < b + 2) : chk most f (xs ++ (.tup [.int a, .int b] :: .tup [.int c, .int d] :: ys)) = false := by
  cases e : chk most f (xs ++ (.tup [.int a, .int b] :: .tup [.int c, .int d] :: ys)) with
  | false => rfl
  | true =>
    obtain ⟨g, e2⟩ := chk_app e
    rw [chk, chk] at e2
    simp only [Bool.and_eq_true, decide_eq_true_eq] at e2
    omega
theorem chk_bad {most f : Int} {xs : List Dy} {x : Dy} (hx : x ∈ xs) (h : stOk most x = false) : chk most f xs = false := by
  cases e : chk most f xs with
  | false => rfl
  | true => rw [chk_st e x hx] at h; cases h
theorem chk_nrm {most : Int} : forall {L : List (Int × Int)} {f : Int}, Nrm L -> Wd most L -> (forall p, p ∈ L -> f ≤ p.1) -> chk most f (L.map ToY.to) = true
  | [], _, _, _, _ => rfl
  | p :: L, f, h, w, hf => by
    have hp := w p List.mem_cons_self
    rw [List.map_cons, show (ToY.to p : Dy) = .tup [.int p.1, .int p.2] from rfl, chk, st_of hp, decide_eq_true (hf p List.mem_cons_self)]
    simp only [Bool.true_and]
    refine chk_nrm h.tail (fun q hq => w q (List.mem_cons_of_mem _ hq)) fun q hq => ?_
    have := (List.pairwise_cons.mp h.2).1 q hq
    omega
/-! set_of -/
theorem set_loop (most : Int) : forall (xs : List Dy), loopM (m_set_of_l1 most) () xs = some (if xs.all (stOk most) = true then .inl () else .inr (.inr "BadSet"))
  | [] => rfl
  | x :: xs => by
    have e : m_set_of_l1 most () x = some (if stOk most x = true then .inl () else .inr (.inr "BadSet")) := by
      unfold m_set_of_l1
      simp only [o2, Option.bind_some, st_y, oNot]
      cases stOk most x <;> rfl
    unfold loopM
    rw [e, List.all_cons]
    cases h : stOk most x with
    | false => rfl
    | true =>
      have := set_loop most xs
      simpa [bra] using this
theorem set_bad {most : Int} {d : Dy} (h : forall xs, d = .lst xs -> exists x, x ∈ xs ∧ stOk most x = false) : m_set_of most d = some (.inr "BadSet") := by
  unfold m_set_of
  cases d with
  | lst xs =>
    have ht : isY "list" (.lst xs) = true := by simp [isY, isN, nmY]
    obtain ⟨x, hx, hb⟩ := h xs rfl
    have ha : xs.all (stOk most) = false := by
      rw [List.all_eq_false]
      exact ⟨x, hx, by simp [hb]⟩
    simp only [o1, Option.bind_some, fIsY, ht, oNot, Bool.not_true, Bool.false_eq_true, if_false, yLst, set_loop, ha, fin]
  | _ => simp [o1, fIsY, isY, isN, nmY, oNot]
theorem mapO_pairs : forall L : List (Int × Int), mapO yPairI (L.map ToY.to) = some L
  | [] => rfl
  | p :: L => by
    rw [List.map_cons, mapO, mapO_pairs L]
    rfl
theorem set_good {most : Int} {L : List (Int × Int)} (hn : Nrm L) (hw : Wd most L) (hl : L.length ≤ 1000) : m_set_of most (.lst (L.map ToY.to)) = some (.inl ⟨L⟩) := by
  have ht : isY "list" (.lst (L.map ToY.to)) = true := by simp [isY, isN, nmY]
  have ha : (L.map (ToY.to : Int × Int -> Dy)).all (stOk most) = true := by
    rw [List.all_eq_true]
    intro x hx
    obtain ⟨p, hp, rfl⟩ := List.mem_map.mp hx
    exact st_of (hw p hp)
  have hp : yPairs (.lst (L.map ToY.to)) = some L := by
    unfold yPairs
    rw [yLst, Option.bind_some, mapO_pairs]
  obtain ⟨t, e, nt, it, _⟩ := merged_ok (psort L) (fun p h => hn.1 p ((psort_mem p).mp h)) (psort_low L) (by rw [psort_len]; exact hl)
  have et : t = L := nm_uniq nt hn fun n => (it n).trans (inn_of fun p => psort_mem p)
  rw [et] at e
  unfold m_set_of
  simp only [o1, Option.bind_some, fIsY, ht, oNot, Bool.not_true, Bool.false_eq_true, if_false, yLst, set_loop, ha, if_true, fin, hp, fSortP, e]
/-! what the law does with an error -/
theorem alone_ok : m_law_alone (.inr ⟨"BadSet"⟩) 0 = some true := by
  unfold m_law_alone
  simp [o1, o2, fIsV, fCons, szOk, fCat, oAnd, fCntB, fEq, ix, atI, ixN]
theorem told_0 {most : Int} {d : Dy} (h : setY most d = false) : m_law_told 0 most d = some (.inr ⟨"BadSet"⟩) := by
  unfold m_law_told
  simp [o2, fEq, need_y, h, oPairR, fMapR, onR, okc]
theorem told_1 {most : Int} {d : Dy} (h : m_set_of most d = some (.inr "BadSet")) : m_law_told 1 most d = some (.inr ⟨"BadSet"⟩) := by
  unfold m_law_told
  simp [o2, fEq, h, oPairR, fMapR, onR, okc]
end Law

set_option Elab.async false
set_option linter.all false
set_option maxRecDepth 100000
namespace Law
open PySem PySem.Spec PyProof.Rows L2 Pu
open Pu.Rp (rp)
/-! the law's things that are none -/
theorem odd_ok (l h most : Int) : exists O, m_law_odd l h most = some O ∧ O.length ≤ 20 ∧ forall x, x ∈ O -> stOk most x = false := by
  have e : m_law_odd l h most = some [.non, .int 5, .bl true, .str (Str.ofString "ab"), .dct, .lst [.int l, .int h], .tup [.int l], .tup [.int l, .int h, .int h], .tup [.non, .int h], .tup [.int l, .non], .tup [.bl true, .int most],
      .tup [.int l, .bl false], .tup [.str (Str.ofString "0"), .int h], .tup [.int l, .int (most + 1)], .tup [.int (-1), .int h], .tup [.int (h + 1), .int h], .tup [.tup [.int l, .int h]]] := rfl
  refine ⟨_, e, by simp, ?_⟩
  intro x hx
  simp only [List.mem_cons, List.not_mem_nil, or_false] at hx
  rcases hx with rfl | rfl | rfl | rfl | rfl | rfl | rfl | rfl | rfl | rfl | rfl | rfl | rfl | rfl | rfl | rfl | rfl
  all_goals first | rfl | (simp [stOk, wt]; done) | (simp [stOk, wt]; intros; omega)
def yp (L : List (Int × Int)) : List Dy := L.map ToY.to
theorem yp_len (L : List (Int × Int)) : (yp L).length = L.length := by unfold yp; rw [List.length_map]
theorem toYT_eq (L : List (Int × Int)) : (toYT (⟨L⟩ : Tl (Int × Int))) = ⟨yp L⟩ := rfl
theorem toYL_eq (L : List (Int × Int)) : (toYL L) = yp L := rfl
theorem cat3 {A B C : List Dy} (h : A.length + B.length + C.length ≤ 1000) : o2 fCatT (o2 fCatT (some ⟨A⟩) (some ⟨B⟩)) (some ⟨C⟩) = some ⟨A ++ B ++ C⟩ := by
  simp only [o2, Option.bind_some, fCatT, szOk, List.length_append]
  rw [if_pos (by omega), Option.map_some, Option.bind_some]
  simp only [List.length_append]
  rw [if_pos (by omega)]
  rfl
theorem cat3l {A B C : List Dy} (h : A.length + B.length + C.length ≤ 1000) : o2 fCat (o2 fCat (some A) (some B)) (some C) = some (A ++ B ++ C) := by
  simp only [o2, Option.bind_some, fCat, szOk, List.length_append]
  rw [if_pos (by omega), Option.bind_some]
  simp only [List.length_append]
  rw [if_pos (by omega)]
theorem at_ok {L : List (Int × Int)} {i : Int} (h0 : 0 ≤ i) (h1 : i < (L.length : Int) + 1) (hl : L.length ≤ 100) : exists p, o2 fIxT (o2 fCatT (some ⟨L⟩) (o1 fTup (o2 fCons (o2 fPair (some (0 : Int)) (some (0 : Int))) (some ([] : List (Int × Int)))))) (some i) = some p ∧ (i < L.length -> ix L i = some p) := by
  obtain ⟨p, e, _, e2⟩ := ix_nat (s := L ++ [((0 : Int), (0 : Int))]) (i := i) h0 (by simp only [List.length_append, List.length_cons, List.length_nil]; omega)
  refine ⟨p, ?_, fun hi => ?_⟩
  · have : o2 fCatT (some (⟨L⟩ : Tl (Int × Int))) (o1 fTup (o2 fCons (o2 fPair (some (0 : Int)) (some (0 : Int))) (some ([] : List (Int × Int))))) = some ⟨L ++ [(0, 0)]⟩ := by
      simp only [o1, o2, Option.bind_some, fPair, fCons, fTup, szOk, List.length_cons, List.length_nil, fCatT, List.length_append]
      rw [if_pos (by omega), Option.map_some, Option.bind_some]
      simp only [List.length_cons, List.length_nil]
      rw [if_pos (by omega)]
      rfl
    rw [this]
    exact e
  · obtain ⟨q, e3, _, e4⟩ := ix_nat (s := L) (i := i) h0 hi
    rw [List.getElem?_append_left (by omega)] at e2
    rw [e4] at e2
    cases e2
    exact e3
theorem toT (x : Tl Dy) : (ToY.to x : Dy) = .tup x.l := by
  show Dy.tup (x.l.map ToY.to) = _
  congr 1
  exact List.map_id _
theorem toL (x : List Dy) : (ToY.to x : Dy) = .lst x := by
  show Dy.lst (x.map ToY.to) = _
  congr 1
  exact List.map_id _
theorem no_sets_ok {L : List (Int × Int)} {most i : Int} (h0 : 0 ≤ i) (h1 : i < (L.length : Int) + 1) (hl : L.length ≤ 60) : exists D, m_law_no_sets ⟨L⟩ most i = some D ∧ forall d, d ∈ D -> setY most d = false := by
  obtain ⟨p, ep, _⟩ := at_ok h0 h1 (by omega)
  obtain ⟨O, eO, lO, bO⟩ := odd_ok p.1 p.2 most
  have cl := cutM_len L
  unfold m_law_no_sets
  rw [ep, Option.bind_some]
  -- one thing put in
  have e1 : exists D1, (oComp (fun (y : Dy) => (some true)) (fun (y : Dy) => (((o2 fCatT (o2 fCatT (((o3 fCutT (some ⟨L⟩) (some none) (((some i)).map some))).map (toYT : (Tl (Int × Int)) -> (Tl Dy))) (o1 fTup (o2 fCons (some y) (some ([] : List Dy))))) (((o3 fCutT (some ⟨L⟩) (((some i)).map some) (some none))).map (toYT : (Tl (Int × Int)) -> (Tl Dy))))).map (ToY.to : (Tl Dy) -> Dy)))
      (o3 m_law_odd (some p.1) (some p.2) (some most))) = some D1 ∧ D1.length ≤ 20 ∧ forall d, d ∈ D1 -> setY most d = false := by
    rw [show o3 m_law_odd (some p.1) (some p.2) (some most) = some O from eO]
    unfold oComp lim
    rw [Option.bind_some, if_pos (by omega), Option.bind_some]
    obtain ⟨r, er, lr, pr⟩ := comp_ex (P := fun d => setY most d = false) (f := fun (y : Dy) => (((o2 fCatT (o2 fCatT (((o3 fCutT (some ⟨L⟩) (some none) (((some i)).map some))).map (toYT : (Tl (Int × Int)) -> (Tl Dy))) (o1 fTup (o2 fCons (some y) (some ([] : List Dy))))) (((o3 fCutT (some ⟨L⟩) (((some i)).map some) (some none))).map (toYT : (Tl (Int × Int)) -> (Tl Dy))))).map (ToY.to : (Tl Dy) -> Dy))) (xs := O) (fun x hx => by
      refine ⟨.tup (yp (cutM L none (some i)) ++ [x] ++ yp (cutM L (some i) none)), ?_, ?_⟩
      · have c1 := cl none (some i)
        have c2 := cl (some i) none
        simp only [o3, Option.bind_some, Option.map_some, fCutT, toYT_eq]
        rw [show o1 fTup (o2 fCons (some x) (some ([] : List Dy))) = some ⟨[x]⟩ from rfl, cat3 (by simp only [yp_len, List.length_cons, List.length_nil]; omega), Option.map_some, toT]
      · show chk most 0 _ = false
        exact chk_bad (x := x) (by simp) (bO x hx))
    exact ⟨r, er, by omega, pr⟩
  obtain ⟨D1, e1, l1, p1⟩ := e1
  rw [e1, Option.bind_some]
  have c1 := cl none (some i)
  have c2 := cl (some (i + 1)) none
  -- a stretch twice, and such
  have e2 : (o1 szOk (o2 fCons (((o2 fCatT (o2 fCatT (((o3 fCutT (some ⟨L⟩) (some none) (((some i)).map some))).map (toYT : (Tl (Int × Int)) -> (Tl Dy))) (o1 fTup (o2 fCons (((o1 fTup (o2 fCons (((some p.1)).map (ToY.to : Int -> Dy)) (o2 fCons (((some p.2)).map (ToY.to : Int -> Dy)) (some ([] : List Dy)))))).map (ToY.to : (Tl Dy) -> Dy)) (o2 fCons (((o1 fTup (o2 fCons (((some p.1)).map (ToY.to : Int -> Dy)) (o2 fCons (((some p.2)).map (ToY.to : Int -> Dy)) (some ([] : List Dy)))))).map (ToY.to : (Tl Dy) -> Dy)) (some ([] : List Dy)))))) (((o3 fCutT (some ⟨L⟩) (((o2 fAdd (some i) (some (1 : Int)))).map some) (some none))).map (toYT : (Tl (Int × Int)) -> (Tl Dy))))).map (ToY.to : (Tl Dy) -> Dy)) (o2 fCons (((o1 fTup (o2 fCons (((o1 fTup (o2 fCons (((some (0 : Int))).map (ToY.to : Int -> Dy)) (o2 fCons (((some (0 : Int))).map (ToY.to : Int -> Dy)) (some ([] : List Dy)))))).map (ToY.to : (Tl Dy) -> Dy)) (o2 fCons (((o1 fTup (o2 fCons (((some (1 : Int))).map (ToY.to : Int -> Dy)) (o2 fCons (((some (1 : Int))).map (ToY.to : Int -> Dy)) (some ([] : List Dy)))))).map (ToY.to : (Tl Dy) -> Dy)) (some ([] : List Dy)))))).map (ToY.to : (Tl Dy) -> Dy)) (o2 fCons (((o1 fTup (o2 fCons (((o1 fTup (o2 fCons (((some (2 : Int))).map (ToY.to : Int -> Dy)) (o2 fCons (((some (2 : Int))).map (ToY.to : Int -> Dy)) (some ([] : List Dy)))))).map (ToY.to : (Tl Dy) -> Dy)) (o2 fCons (((o1 fTup (o2 fCons (((some (0 : Int))).map (ToY.to : Int -> Dy)) (o2 fCons (((some (0 : Int))).map (ToY.to : Int -> Dy)) (some ([] : List Dy)))))).map (ToY.to : (Tl Dy) -> Dy)) (some ([] : List Dy)))))).map (ToY.to : (Tl Dy) -> Dy)) (some ([] : List Dy)))))) =
      some [.tup (yp (cutM L none (some i)) ++ [.tup [.int p.1, .int p.2], .tup [.int p.1, .int p.2]] ++ yp (cutM L (some (i + 1)) none)), .tup [.tup [.int 0, .int 0], .tup [.int 1, .int 1]], .tup [.tup [.int 2, .int 2], .tup [.int 0, .int 0]]] := by
    simp only [o3, Option.bind_some, Option.map_some, fCutT, toYT_eq, show o2 fAdd (some i) (some (1 : Int)) = some (i + 1) from rfl]
    rw [show (o1 fTup (o2 fCons (((o1 fTup (o2 fCons (some (ToY.to p.1 : Dy)) (o2 fCons (some (ToY.to p.2 : Dy)) (some ([] : List Dy)))))).map (ToY.to : (Tl Dy) -> Dy)) (o2 fCons (((o1 fTup (o2 fCons (some (ToY.to p.1 : Dy)) (o2 fCons (some (ToY.to p.2 : Dy)) (some ([] : List Dy)))))).map (ToY.to : (Tl Dy) -> Dy)) (some ([] : List Dy))))) = some ⟨[.tup [.int p.1, .int p.2], .tup [.int p.1, .int p.2]]⟩ from rfl,
      cat3 (by simp only [yp_len, List.length_cons, List.length_nil]; omega), Option.map_some, toT]
    rfl
  rw [e2]
  rw [show o2 fCat (some D1) (some [Dy.tup (yp (cutM L none (some i)) ++ [.tup [.int p.1, .int p.2], .tup [.int p.1, .int p.2]] ++ yp (cutM L (some (i + 1)) none)), .tup [.tup [.int 0, .int 0], .tup [.int 1, .int 1]], .tup [.tup [.int 2, .int 2], .tup [.int 0, .int 0]]]) = some (D1 ++ [Dy.tup (yp (cutM L none (some i)) ++ [.tup [.int p.1, .int p.2], .tup [.int p.1, .int p.2]] ++ yp (cutM L (some (i + 1)) none)), .tup [.tup [.int 0, .int 0], .tup [.int 1, .int 1]], .tup [.tup [.int 2, .int 2], .tup [.int 0, .int 0]]]) by
    simp only [o2, Option.bind_some, fCat, szOk]
    rw [if_pos (by simp only [List.length_append, List.length_cons, List.length_nil]; omega)], Option.bind_some]
  have e3 : (o1 szOk (o2 fCons (((o1 fListT (some (⟨L⟩ : Tl (Int × Int))))).map (ToY.to : (List (Int × Int)) -> Dy)) (o2 fCons (((some ())).map (ToY.to : Unit -> Dy)) (o2 fCons (((some true)).map (ToY.to : Bool -> Dy)) (o2 fCons (((some (0 : Int))).map (ToY.to : Int -> Dy)) (o2 fCons (((some (Str.ofString ""))).map (ToY.to : Str -> Dy)) (o2 fCons (some Dy.dct) (o2 fCons (((o1 fTup (o2 fCons (((some (0 : Int))).map (ToY.to : Int -> Dy)) (o2 fCons (((some (0 : Int))).map (ToY.to : Int -> Dy)) (some ([] : List Dy)))))).map (ToY.to : (Tl Dy) -> Dy)) (some ([] : List Dy)))))))))) =
      some [.lst (yp L), .non, .bl true, .int 0, .str (Str.ofString ""), .dct, .tup [.int 0, .int 0]] := rfl
  rw [e3]
  refine ⟨(D1 ++ [Dy.tup (yp (cutM L none (some i)) ++ [.tup [.int p.1, .int p.2], .tup [.int p.1, .int p.2]] ++ yp (cutM L (some (i + 1)) none)), .tup [.tup [.int 0, .int 0], .tup [.int 1, .int 1]], .tup [.tup [.int 2, .int 2], .tup [.int 0, .int 0]]]) ++ [.lst (yp L), .non, .bl true, .int 0, .str (Str.ofString ""), .dct, .tup [.int 0, .int 0]], ?_, ?_⟩
  · simp only [o2, Option.bind_some, fCat, szOk]
    rw [if_pos (by simp only [List.length_append, List.length_cons, List.length_nil]; omega)]
  · intro d hd
    simp only [List.mem_append, List.mem_cons, List.not_mem_nil, or_false] at hd
    rcases hd with (hd | rfl | rfl | rfl) | rfl | rfl | rfl | rfl | rfl | rfl | rfl
    · exact p1 d hd
    · show chk most 0 _ = false
      cases c : chk most 0 (yp (cutM L none (some i)) ++ [.tup [.int p.1, .int p.2], .tup [.int p.1, .int p.2]] ++ yp (cutM L (some (i + 1)) none)) with
      | false => rfl
      | true =>
        have hs := chk_st c (.tup [.int p.1, .int p.2]) (by simp)
        obtain ⟨a, b, eab, _, ab, _⟩ := st_pair hs
        have e5 : p.1 = a ∧ p.2 = b := by simpa using eab
        rw [List.append_assoc] at c
        have := chk_two (most := most) (a := p.1) (b := p.2) (c := p.1) (d := p.2) (xs := yp (cutM L none (some i))) (ys := yp (cutM L (some (i + 1)) none)) (f := 0) (by omega)
        rw [show [Dy.tup [.int p.1, .int p.2], .tup [.int p.1, .int p.2]] ++ yp (cutM L (some (i + 1)) none) = .tup [.int p.1, .int p.2] :: .tup [.int p.1, .int p.2] :: yp (cutM L (some (i + 1)) none) from rfl, this] at c
        cases c
    · exact chk_two (most := most) (xs := []) (ys := []) (f := 0) (by omega)
    · exact chk_two (most := most) (xs := []) (ys := []) (f := 0) (by omega)
    · rfl
    · rfl
    · rfl
    · rfl
    · rfl
    · rfl
    · exact chk_bad (x := .int 0) (by simp) rfl
end Law

set_option Elab.async false
set_option linter.all false
set_option maxRecDepth 100000
namespace Law
open PySem PySem.Spec PyProof.Rows L2 Pu
open Pu.Rp (rp)
theorem no_lists_ok {L : List (Int × Int)} {most i : Int} (h0 : 0 ≤ i) (h1 : i < (L.length : Int) + 1) (hl : L.length ≤ 60) : exists D, m_law_no_lists ⟨L⟩ most i = some D ∧ forall d, d ∈ D -> m_set_of most d = some (.inr "BadSet") := by
  obtain ⟨p, ep, _⟩ := at_ok h0 h1 (by omega)
  obtain ⟨O, eO, lO, bO⟩ := odd_ok p.1 p.2 most
  have cl := cutM_len L
  unfold m_law_no_lists
  rw [ep, Option.bind_some]
  have e1 : exists D1, (oComp (fun (y : Dy) => (some true)) (fun (y : Dy) => (((o2 fCat (o2 fCat (((o1 fListT (o3 fCutT (some ⟨L⟩) (some none) (((some i)).map some)))).map (toYL : (List (Int × Int)) -> (List Dy))) (o1 szOk (o2 fCons (some y) (some ([] : List Dy))))) (((o1 fListT (o3 fCutT (some ⟨L⟩) (((some i)).map some) (some none)))).map (toYL : (List (Int × Int)) -> (List Dy))))).map (ToY.to : (List Dy) -> Dy)))
      (o3 m_law_odd (some p.1) (some p.2) (some most))) = some D1 ∧ D1.length ≤ 20 ∧ forall d, d ∈ D1 -> m_set_of most d = some (.inr "BadSet") := by
    rw [show o3 m_law_odd (some p.1) (some p.2) (some most) = some O from eO]
    unfold oComp lim
    rw [Option.bind_some, if_pos (by omega), Option.bind_some]
    obtain ⟨r, er, lr, pr⟩ := comp_ex (P := fun d => m_set_of most d = some (.inr "BadSet")) (f := fun (y : Dy) => (((o2 fCat (o2 fCat (((o1 fListT (o3 fCutT (some ⟨L⟩) (some none) (((some i)).map some)))).map (toYL : (List (Int × Int)) -> (List Dy))) (o1 szOk (o2 fCons (some y) (some ([] : List Dy))))) (((o1 fListT (o3 fCutT (some ⟨L⟩) (((some i)).map some) (some none)))).map (toYL : (List (Int × Int)) -> (List Dy))))).map (ToY.to : (List Dy) -> Dy))) (xs := O) (fun x hx => by
      refine ⟨.lst (yp (cutM L none (some i)) ++ [x] ++ yp (cutM L (some i) none)), ?_, ?_⟩
      · have c1 := cl none (some i)
        have c2 := cl (some i) none
        simp only [o1, o3, Option.bind_some, Option.map_some, fCutT, fListT, toYL_eq]
        rw [show (o2 fCons (some x) (some ([] : List Dy))).bind szOk = some [x] from rfl, cat3l (by simp only [yp_len, List.length_cons, List.length_nil]; omega), Option.map_some, toL]
      · exact set_bad fun xs e => by
          cases e
          exact ⟨x, by simp, bO x hx⟩)
    exact ⟨r, er, by omega, pr⟩
  obtain ⟨D1, e1, l1, p1⟩ := e1
  rw [e1, Option.bind_some]
  have e3 : (o1 szOk (o2 fCons (((some (⟨L⟩ : Tl (Int × Int)))).map (ToY.to : (Tl (Int × Int)) -> Dy)) (o2 fCons (((some ())).map (ToY.to : Unit -> Dy)) (o2 fCons (((some true)).map (ToY.to : Bool -> Dy)) (o2 fCons (((some (0 : Int))).map (ToY.to : Int -> Dy)) (o2 fCons (((some (Str.ofString ""))).map (ToY.to : Str -> Dy)) (o2 fCons (some Dy.dct) (o2 fCons (((o1 szOk (o2 fCons (((some (0 : Int))).map (ToY.to : Int -> Dy)) (o2 fCons (((some (0 : Int))).map (ToY.to : Int -> Dy)) (some ([] : List Dy)))))).map (ToY.to : (List Dy) -> Dy)) (o2 fCons (((o1 szOk (o2 fCons (((o1 szOk (some ([] : List Dy)))).map (ToY.to : (List Dy) -> Dy)) (some ([] : List Dy))))).map (ToY.to : (List Dy) -> Dy)) (o2 fCons (((o1 szOk (o2 fCons (((o1 fTup (some ([] : List Dy)))).map (ToY.to : (Tl Dy) -> Dy)) (some ([] : List Dy))))).map (ToY.to : (List Dy) -> Dy)) (some ([] : List Dy)))))))))))) =
      some [.tup (yp L), .non, .bl true, .int 0, .str (Str.ofString ""), .dct, .lst [.int 0, .int 0], .lst [.lst []], .lst [.tup []]] := rfl
  rw [e3]
  refine ⟨D1 ++ [.tup (yp L), .non, .bl true, .int 0, .str (Str.ofString ""), .dct, .lst [.int 0, .int 0], .lst [.lst []], .lst [.tup []]], ?_, ?_⟩
  · simp only [o2, Option.bind_some, fCat, szOk]
    rw [if_pos (by simp only [List.length_append, List.length_cons, List.length_nil]; omega)]
  · intro d hd
    simp only [List.mem_append, List.mem_cons, List.not_mem_nil, or_false] at hd
    rcases hd with hd | rfl | rfl | rfl | rfl | rfl | rfl | rfl | rfl | rfl
    · exact p1 d hd
    · exact set_bad fun xs e => nomatch e
    · exact set_bad fun xs e => nomatch e
    · exact set_bad fun xs e => nomatch e
    · exact set_bad fun xs e => nomatch e
    · exact set_bad fun xs e => nomatch e
    · exact set_bad fun xs e => nomatch e
    · exact set_bad fun xs e => by cases e; exact ⟨.int 0, by simp, rfl⟩
    · exact set_bad fun xs e => by cases e; exact ⟨.lst [], by simp, rfl⟩
    · exact set_bad fun xs e => by cases e; exact ⟨.tup [], by simp, rfl⟩
/-! the set that the law draws -/
theorem three (m : Int) (g : Int) (h : 0 ≤ m) (hg : 0 ≤ g ∧ g < 1000000000) : exists v, (o2 ix (o1 szOk (o2 fCons (some (0 : Int)) (o2 fCons (some (1 : Int)) (o2 fCons (some g) (some ([] : List Int)))))) (some (m % 3))) = some v ∧ 0 ≤ v ∧ v < 1000000000 := by
  have e : o1 szOk (o2 fCons (some (0 : Int)) (o2 fCons (some (1 : Int)) (o2 fCons (some g) (some ([] : List Int))))) = some [0, 1, g] := rfl
  obtain ⟨v, ev, hm, _⟩ := ix_nat (s := [0, 1, g]) (i := m % 3) (by omega) (by simp only [List.length_cons, List.length_nil]; omega)
  refine ⟨v, by rw [e]; exact ev, ?_⟩
  simp only [List.mem_cons, List.not_mem_nil, or_false] at hm
  omega
theorem set_step (s : List (Int × Int)) (b : Int) (x : Int × Int) (hl : s.length ≤ 1000) (hx : 0 ≤ x.1 ∧ x.1 ≤ 1000) :
    exists g w, m_law_set_l1 (s, b) x = some (s ++ [(b + g, b + g + w)], b + g + w + 2) ∧ 0 ≤ g ∧ g < 1000000000 ∧ 0 ≤ w ∧ w < 1000000000 := by
  obtain ⟨m, em, m0, m1⟩ := mixed_ok x.2 x.1
  obtain ⟨a, ea, a0, a1⟩ := great_ok x.2 (2 * x.1)
  obtain ⟨c, ec, c0, c1⟩ := great_ok x.2 (2 * x.1 + 1)
  have e2 : fMul 2 x.1 = some (2 * x.1) := fMul_1 (by omega)
  have p9 : o2 fPow (some (10 : Int)) (some (9 : Int)) = some 1000000000 := rfl
  obtain ⟨g, eg, g0, g1⟩ := three m (a % 1000000000) m0 ⟨by omega, by omega⟩
  obtain ⟨w, ew, w0, w1⟩ := three (m / 3) (c % 1000000000) (by omega) ⟨by omega, by omega⟩
  refine ⟨g, w, ?_, g0, g1, w0, w1⟩
  unfold m_law_set_l1
  have q1 : o2 m_law_great (some x.2) (o2 fMul (some (2 : Int)) (some x.1)) = some a := by simp only [o2, Option.bind_some, e2, ea]
  have q2 : o2 m_law_great (some x.2) (o2 fAdd (o2 fMul (some (2 : Int)) (some x.1)) (some (1 : Int))) = some c := by simp only [o2, Option.bind_some, e2, fAdd, ec]
  have q3 : o2 fMod (o2 m_law_mixed (some x.2) (some x.1)) (some (3 : Int)) = some (m % 3) := by simp only [o2, Option.bind_some, em]; exact fMod_1 (by decide)
  have q4 : o2 fMod (o2 fDiv (o2 m_law_mixed (some x.2) (some x.1)) (some (3 : Int))) (some (3 : Int)) = some (m / 3 % 3) := by
    simp only [o2, Option.bind_some, em, fDiv_1 (show (0 : Int) < 3 ∧ (3 : Int) < 1073741824 by decide)]; exact fMod_1 (by decide)
  have q5 : o2 fMod (some a) (some (1000000000 : Int)) = some (a % 1000000000) := by show fMod a 1000000000 = _; exact fMod_1 (by decide)
  have q6 : o2 fMod (some c) (some (1000000000 : Int)) = some (c % 1000000000) := by show fMod c 1000000000 = _; exact fMod_1 (by decide)
  rw [q1, q2, q3, q4, p9, q5, q6, eg, Option.bind_some, ew, Option.bind_some]
  simp only [o2, Option.bind_some, fAdd, fPair, fApp]
  rw [if_pos (by omega)]
  rfl
theorem set_fold : forall (xs : List (Int × Int)) (s : List (Int × Int)) (b : Int), s.length + xs.length ≤ 60 -> (forall x, x ∈ xs -> 0 ≤ x.1 ∧ x.1 ≤ 1000) -> Nrm s -> (forall p, p ∈ s -> 0 ≤ p.1 ∧ p.2 + 2 ≤ b) -> 0 ≤ b -> b ≤ 2000000002 * (s.length : Int) ->
    exists L c, foldO m_law_set_l1 (s, b) xs = some (L, c) ∧ Nrm L ∧ (forall p, p ∈ L -> 0 ≤ p.1 ∧ p.2 + 2 ≤ c) ∧ c ≤ 2000000002 * 60 ∧ L.length ≤ 60
  | [], s, b, hl, _, hn, hb, b0, b1 => ⟨s, b, rfl, hn, hb, by simp only [List.length_nil] at hl; omega, by simpa using hl⟩
  | x :: xs, s, b, hl, hx, hn, hb, b0, b1 => by
    simp only [List.length_cons] at hl
    obtain ⟨g, w, e, g0, g1, w0, w1⟩ := set_step s b x (by omega) (hx x List.mem_cons_self)
    unfold foldO
    rw [e]
    refine set_fold xs (s ++ [(b + g, b + g + w)]) (b + g + w + 2) (by simp only [List.length_append, List.length_cons, List.length_nil]; omega) (fun y hy => hx y (List.mem_cons_of_mem _ hy)) (hn.snoc (by simp only; omega) fun q hq => by have := hb q hq; simp only; omega) (fun p hp => ?_) (by omega) ?_
    · rcases List.mem_append.mp hp with hp | hp
      · have := hb p hp; omega
      · rw [List.mem_singleton.mp hp]; simp only; omega
    · simp only [List.length_append, List.length_cons, List.length_nil]
      omega
theorem enum_fst {A : Type} {xs : List A} {x : Int × A} (h : x ∈ enum xs) : 0 ≤ x.1 ∧ x.1 < xs.length := by
  unfold enum at h
  have := (List.of_mem_zip h).1
  obtain ⟨k, hk, e⟩ := List.mem_map.mp this
  have := List.mem_range.mp hk
  rw [← e]
  omega
theorem lset_ok (ns : List Int) (hl : ns.length ≤ 63) : exists L, m_law_set ⟨ns⟩ = some ⟨L⟩ ∧ Nrm L ∧ (forall p, p ∈ L -> 0 ≤ p.1 ∧ p.2 ≤ 120000000118) ∧ L.length ≤ 60 := by
  have hc : (cutM ns none (some 60)).length ≤ 60 := by
    unfold cutM
    simp only [List.length_take, List.length_drop]
    have : HT.sIx ns.length ns.length (some 60) ≤ 60 := by
      unfold HT.sIx
      simp
      omega
    omega
  have he : (enum (cutM ns none (some 60))).length ≤ 60 := by rw [enum_len]; exact hc
  obtain ⟨L, c, e, n, h1, h2, h3⟩ := set_fold (enum (cutM ns none (some 60))) [] 0 (by simpa using he) (fun x hx => by have := enum_fst hx; omega) Nrm.nil (fun p h => nomatch h) (by omega) (by simp)
  refine ⟨L, ?_, n, fun p hp => by have := h1 p hp; omega, h3⟩
  unfold m_law_set
  simp only [o3, Option.bind_some, Option.map_some, fCutS]
  rw [e]
  rfl
end Law

set_option Elab.async false
set_option linter.all false
set_option maxRecDepth 100000
namespace Law
open PySem PySem.Spec PyProof.Rows L2 Pu
open Pu.Rp (rp)
theorem map_ok {I A : Type} {f : I -> Option A} {g : I -> A} {xs : List I} (hl : xs.length ≤ 90000) (h : forall x, x ∈ xs -> f x = some (g x)) : oComp (fun _ => some true) f (some xs) = some (xs.map g) := by
  unfold oComp lim
  rw [Option.bind_some, if_pos (by omega), Option.bind_some]
  exact comp_all (fun _ _ => rfl) h
theorem asked_1 (most : Int) (x : Int × Int) (s : List Int) (hl : s.length ≤ 2000) : exists t, m_law_asked_l1 most s x = some t ∧ t.length ≤ s.length + 4 := by
  unfold m_law_asked_l1
  have e1 : o2 fCat (some s) (o1 szOk (o2 fCons (some x.1) (o2 fCons (some x.2) (some ([] : List Int))))) = some (s ++ [x.1, x.2]) := by
    rw [show o1 szOk (o2 fCons (some x.1) (o2 fCons (some x.2) (some ([] : List Int)))) = some [x.1, x.2] from rfl]
    simp only [o2, Option.bind_some, fCat, szOk]
    rw [if_pos (by simp only [List.length_append, List.length_cons, List.length_nil]; omega)]
  have e2 : ((o1 fTup (o2 fCons (o2 fSub (some x.1) (some (1 : Int))) (o2 fCons (o2 fAdd (some x.2) (some (1 : Int))) (some ([] : List Int))))).map Tl.l) = some [x.1 - 1, x.2 + 1] := rfl
  have e3 : (oComp (fun (y : Int) => (oChain fLe fLe (some (0 : Int)) (some y) (some most))) (fun (y : Int) => (some y)) (some [x.1 - 1, x.2 + 1])) = some ([x.1 - 1, x.2 + 1].filter fun y => decide (0 ≤ y) && decide (y ≤ most)) := by
    unfold oComp lim
    rw [Option.bind_some, if_pos (by simp), Option.bind_some]
    have : (fun (y : Int) => (oChain fLe fLe (some (0 : Int)) (some y) (some most))) = fun y => some (decide (0 ≤ y) && decide (y ≤ most)) := by
      funext y
      simp only [oChain, fLe, Option.bind_some]
      by_cases h : 0 ≤ y <;> simp [h]
    rw [this, comp_filter]
  rw [e1, e2, e3]
  have l3 : ([x.1 - 1, x.2 + 1].filter fun y => decide (0 ≤ y) && decide (y ≤ most)).length ≤ 2 := List.length_filter_le _ _
  refine ⟨s ++ [x.1, x.2] ++ ([x.1 - 1, x.2 + 1].filter fun y => decide (0 ≤ y) && decide (y ≤ most)), ?_, ?_⟩
  · simp only [o2, Option.bind_some, fCat, szOk]
    rw [if_pos (by simp only [List.length_append, List.length_cons, List.length_nil]; omega), Option.bind_some]
  · simp only [List.length_append, List.length_cons, List.length_nil]
    omega
theorem asked_fold (most : Int) : forall (xs : List (Int × Int)) (s : List Int), s.length + 4 * xs.length ≤ 1000 -> exists t, foldO (m_law_asked_l1 most) s xs = some t ∧ t.length ≤ 1000
  | [], s, h => ⟨s, rfl, by simpa using h⟩
  | x :: xs, s, h => by
    simp only [List.length_cons] at h
    obtain ⟨t, e, l⟩ := asked_1 most x s (by omega)
    unfold foldO
    rw [e]
    exact asked_fold most xs t (by omega)
theorem any_inb (L : List (Int × Int)) (x : Int) (hl : L.length ≤ 1000) : (o1 fAny (oComp (fun (y : (Int × Int)) => (some true)) (fun (y : (Int × Int)) => (oChain fLe fLe (some y.1) (some x) (some y.2))) (((some (⟨L⟩ : Tl (Int × Int)))).map Tl.l))) = some (inb L x) := by
  rw [Option.map_some, any_all (g := fun p : Int × Int => decide (p.1 ≤ x) && decide (x ≤ p.2)) (by simp only; omega) (fun p _ => by
    simp only [oChain, fLe, Option.bind_some]
    by_cases h : p.1 ≤ x <;> simp [h])]
  simp only [o1, Option.bind_some, fAny, inb, List.any_map]
  rfl
theorem asked_ok {L : List (Int × Int)} {most : Int} (hn : Nrm L) (hl : L.length ≤ 60) : m_law_asked ⟨L⟩ most = some true := by
  unfold m_law_asked
  rw [show o1 szOk (o2 fCons (some (0 : Int)) (o2 fCons (some most) (some ([] : List Int)))) = some [0, most] from rfl, Option.bind_some, Option.map_some, Option.bind_some]
  obtain ⟨t, e, l⟩ := asked_fold most L [0, most] (by simp only [List.length_cons, List.length_nil]; omega)
  rw [e, Option.bind_some, Option.bind_some]
  rw [loop_unit (fun x _ => by
    unfold m_law_asked_l2
    rw [any_inb L x (by omega)]
    simp only [o2, o1, Option.bind_some, has_ok L hn x, fIs, oNot, oOr, Bool.not_true, Bool.false_eq_true, if_false, fNe, decide_true]), Option.bind_some]
  unfold fin
  have es : (o1 fSum (oComp (fun (y : (Int × Int)) => (some true)) (fun (y : (Int × Int)) => (o2 fSub (o2 fAdd (some y.2) (some (1 : Int))) (some y.1))) (some (⟨L⟩ : Tl (Int × Int)).l))) = some (sz L) := by
    rw [map_ok (f := fun (y : (Int × Int)) => (o2 fSub (o2 fAdd (some y.2) (some (1 : Int))) (some y.1))) (g := fun p : Int × Int => p.2 + 1 - p.1) (by dsimp only; omega) (fun p _ => rfl)]
    simp only [o1, Option.bind_some, fSum, sz]
    congr 2
    exact List.map_congr_left fun p _ => by omega
  have em : o1 m_size (some (⟨L⟩ : Tl (Int × Int))) = some (sz L) := size_ok L (by omega)
  have el : o1 m_least (some (⟨L⟩ : Tl (Int × Int))) = some (hd L) := least_ok L
  rw [es, em, el]
  simp only [o2, Option.bind_some, fNe, decide_true, Bool.not_true, Bool.false_eq_true, if_false]
  cases L with
  | nil => rfl
  | cons p r =>
    have ex : ix (p :: r) 0 = some p := atI_nat (j := 0) rfl
    have ne : decide ((⟨p :: r⟩ : Tl (Int × Int)) = ⟨[]⟩) = false := decide_eq_false fun z => by cases z
    rw [show o1 fTup (some ([] : List (Int × Int))) = some ⟨[]⟩ from rfl]
    simp only [Option.bind_some, fNe, ne, Bool.not_false, oIf, if_true, o1, fIxT, ex, fFst, Option.map_some, fEq, hd, List.head?_cons, decide_true]
theorem wd_of {L : List (Int × Int)} {most : Int} (hn : Nrm L) (h0 : forall p, p ∈ L -> 0 ≤ p.1) (h1 : forall p, p ∈ L -> p.2 ≤ most) : Wd most L := fun p hp => ⟨h0 p hp, hn.1 p hp, h1 p hp⟩
theorem m_law_true (ns : List Int) (hl : ns.length ≤ 63) : m_law ⟨ns⟩ = some true := by
  obtain ⟨L, eL, hn, hb, ll⟩ := lset_ok ns hl
  unfold m_law
  rw [show o1 m_law_set (some (⟨ns⟩ : Scr)) = some ⟨L⟩ from eL, Option.bind_some]
  -- the cell of all
  have ec : exists c, (o2 m_law_mixed (o1 fSum (oComp (fun (y : Int) => (some true)) (fun (y : Int) => (o2 m_law_mixed (some y) (some (3 : Int)))) (o3 fCutS (some (⟨ns⟩ : Scr)) (some none) (((some (60 : Int))).map some)))) (o2 fMod (o1 fLenS (some (⟨ns⟩ : Scr))) (some (64 : Int)))) = some c ∧ 0 ≤ c := by
    obtain ⟨r, er, lr, pr⟩ := comp_ex (P := fun _ : Int => True) (f := fun (y : Int) => (o2 m_law_mixed (some y) (some (3 : Int)))) (xs := cutM ns none (some 60)) (fun x _ => by
      obtain ⟨v, ev, _⟩ := mixed_ok x 3
      exact ⟨v, ev, trivial⟩)
    have hz := cutM_len ns none (some 60)
    obtain ⟨v, ev, v0, _⟩ := mixed_ok r.sum ((ns.length : Int) % 64)
    refine ⟨v, ?_, v0⟩
    simp only [o3, Option.bind_some, Option.map_some, fCutS]
    unfold oComp lim
    rw [Option.bind_some, if_pos (by omega), Option.bind_some, er]
    simp only [o1, o2, Option.bind_some, fSum, fLenS, fMod_1 (show (0 : Int) < 64 by decide), ev]
  obtain ⟨c, ec, c0⟩ := ec
  rw [ec, Option.bind_some]
  -- the last border
  have em : exists b, (o1 fSnd (o2 fIxT (o2 fCatT (some (⟨L⟩ : Tl (Int × Int))) (o1 fTup (o2 fCons (o2 fPair (some (0 : Int)) (some (0 : Int))) (some ([] : List (Int × Int)))))) (o2 fMax (some (0 : Int)) (o2 fSub (o1 fLenT (some (⟨L⟩ : Tl (Int × Int)))) (some (1 : Int)))))) = some b ∧ forall p, p ∈ L -> p.2 ≤ b ∧ b ≤ 120000000118 := by
    have ei : o2 fMax (some (0 : Int)) (o2 fSub (o1 fLenT (some (⟨L⟩ : Tl (Int × Int)))) (some (1 : Int))) = some (imax 0 ((L.length : Int) - 1)) := rfl
    have hi := imax_le (i := 0) (j := (L.length : Int) - 1)
    obtain ⟨p, ep, hp⟩ := at_ok (L := L) (i := imax 0 ((L.length : Int) - 1)) (by omega) (by omega) (by omega)
    refine ⟨p.2, by rw [ei, ep]; rfl, fun q hq => ?_⟩
    have hlen : 0 < L.length := List.length_pos_of_mem hq
    have e0 : imax 0 ((L.length : Int) - 1) = ((L.length - 1 : Nat) : Int) := by omega
    have e1 := hp (by omega)
    rw [e0] at e1
    have g1 : L[L.length - 1]? = some p := by
      have := atI_nat (List.getElem?_eq_getElem (show L.length - 1 < L.length by omega))
      rw [show ix L ((L.length - 1 : Nat) : Int) = atI L ((L.length - 1 : Nat) : Int) from rfl, this] at e1
      cases e1
      exact List.getElem?_eq_getElem _
    obtain ⟨j, hj⟩ := List.getElem?_of_mem hq
    have jl := (List.getElem?_eq_some_iff.mp hj).1
    have hbp := hb p (List.mem_of_getElem? g1)
    refine ⟨?_, hbp.2⟩
    rcases Nat.lt_or_ge j (L.length - 1) with g | g
    · have := nrm_ix hn hj g1 g
      have := hn.1 p (List.mem_of_getElem? g1)
      omega
    · have : j = L.length - 1 := by omega
      rw [this, g1] at hj
      cases hj
      omega
  obtain ⟨b, em, hb2⟩ := em
  rw [em, Option.bind_some]
  -- the most
  have eM : exists M, (o2 fMin (o2 fPow (some (10 : Int)) (some (12 : Int))) (o2 ix (o1 szOk (o2 fCons (some b) (o2 fCons (o2 fAdd (some b) (some (1 : Int))) (o2 fCons (o2 fAdd (some b) (o2 m_law_great (some c) (some (4 : Int)))) (some ([] : List Int)))))) (o2 fMod (some c) (some (3 : Int))))) = some M ∧ forall p, p ∈ L -> p.2 ≤ M := by
    obtain ⟨g, eg, g0, _⟩ := great_ok c 4
    have e1 : o1 szOk (o2 fCons (some b) (o2 fCons (o2 fAdd (some b) (some (1 : Int))) (o2 fCons (o2 fAdd (some b) (o2 m_law_great (some c) (some (4 : Int)))) (some ([] : List Int))))) = some [b, b + 1, b + g] := by
      simp only [o1, o2, Option.bind_some, eg, fAdd, fCons, szOk]
      rfl
    have e2 : o2 fMod (some c) (some (3 : Int)) = some (c % 3) := by show fMod c 3 = _; exact fMod_1 (by decide)
    obtain ⟨v, ev, hv, _⟩ := ix_nat (s := [b, b + 1, b + g]) (i := c % 3) (by omega) (by simp only [List.length_cons, List.length_nil]; omega)
    have hv' : b ≤ v := by
      simp only [List.mem_cons, List.not_mem_nil, or_false] at hv
      omega
    refine ⟨imin 1000000000000 v, ?_, fun p hp => ?_⟩
    · rw [e1, e2, show o2 fPow (some (10 : Int)) (some (12 : Int)) = some 1000000000000 from rfl]
      simp only [o2, Option.bind_some, ev, fMin]
    · have := hb2 p hp
      have := imin_le (i := 1000000000000) (j := v)
      omega
  obtain ⟨M, eM, hM⟩ := eM
  rw [eM, Option.bind_some]
  have hw : Wd M L := wd_of hn (fun p hp => (hb p hp).1) hM
  -- a place
  have ea : exists i, (o2 fMod (o2 fDiv (some c) (some (3 : Int))) (o2 fMax (some (1 : Int)) (o1 fLenT (some (⟨L⟩ : Tl (Int × Int)))))) = some i ∧ 0 ≤ i ∧ i < (L.length : Int) + 1 := by
    have e1 : o2 fMax (some (1 : Int)) (o1 fLenT (some (⟨L⟩ : Tl (Int × Int)))) = some (imax 1 (L.length : Int)) := rfl
    have hi := imax_le (i := 1) (j := (L.length : Int))
    have hp : 0 < imax 1 (L.length : Int) := by omega
    refine ⟨c / 3 % imax 1 (L.length : Int), ?_, Int.emod_nonneg _ (by omega), ?_⟩
    · rw [e1]
      simp only [o2, Option.bind_some, fDiv_1 (show (0 : Int) < 3 ∧ (3 : Int) < 1073741824 by decide)]
      exact fMod_1 hp
    · have := Int.emod_lt_of_pos (c / 3) hp
      omega
  obtain ⟨i, ea, i0, i1⟩ := ea
  rw [ea, Option.bind_some]
  have hgood : setY M (.tup (yp L)) = true := chk_nrm hn hw fun p hp => (hb p hp).1
  have en : (o1 fNotNU ((o2 m_need_set (some M) (((some (⟨L⟩ : Tl (Int × Int)))).map (ToY.to : (Tl (Int × Int)) -> Dy))).bind getL)) = some false := by
    rw [Option.map_some, show (ToY.to (⟨L⟩ : Tl (Int × Int)) : Dy) = .tup (yp L) from rfl]
    simp only [o2, Option.bind_some, need_y, hgood, if_true, getL, o1, fNotNU]
  have ek : o2 m_law_asked (some (⟨L⟩ : Tl (Int × Int))) (some M) = some true := asked_ok hn ll
  rw [show (oOr (o1 fNotNU ((o2 m_need_set (some M) (((some (⟨L⟩ : Tl (Int × Int)))).map (ToY.to : (Tl (Int × Int)) -> Dy))).bind getL)) (oNot (o2 m_law_asked (some (⟨L⟩ : Tl (Int × Int))) (some M)))) = some false by rw [en, ek]; rfl, Option.bind_some, if_neg Bool.false_ne_true]
  obtain ⟨D, eD, pD⟩ := no_sets_ok (L := L) (most := M) i0 i1 ll
  obtain ⟨D2, eD2, pD2⟩ := no_lists_ok (L := L) (most := M) i0 i1 ll
  rw [show o3 m_law_no_sets (some (⟨L⟩ : Tl (Int × Int))) (some M) (some i) = some D from eD, Option.bind_some]
  rw [loop_unit (fun x hx => by
    unfold m_law_l1
    rw [en]
    rw [show o2 m_law_alone (o3 m_law_told (some (0 : Int)) (some M) (some x)) (some (0 : Int)) = some true by
      simp only [o2, o3, Option.bind_some, told_0 (pD x hx)]
      exact alone_ok]
    rfl), Option.bind_some]
  unfold fin
  dsimp only
  rw [show o3 m_law_no_lists (some (⟨L⟩ : Tl (Int × Int))) (some M) (some i) = some D2 from eD2, Option.bind_some]
  rw [loop_unit (fun x hx => by
    unfold m_law_l2
    rw [show o2 m_law_alone (o3 m_law_told (some (1 : Int)) (some M) (some x)) (some (0 : Int)) = some true by
      simp only [o2, o3, Option.bind_some, told_1 (pD2 x hx)]
      exact alone_ok]
    rfl), Option.bind_some]
  dsimp only
  rw [show o1 fListT (some (⟨L⟩ : Tl (Int × Int))) = some L from rfl, Option.bind_some, Option.map_some, show (ToY.to L : Dy) = .lst (L.map ToY.to) from rfl]
  simp only [o2, Option.bind_some, set_good hn hw (show L.length ≤ 1000 by omega), getL, fEq, decide_true, oAnd, if_true, o1, fIs]
end Law

set_option Elab.async false
set_option linter.all false
set_option maxRecDepth 100000
namespace Law
open PySem PySem.Spec PyProof.Rows L2 Pu
open Pu.Rp (rp)
def spLaw (K : Fg) : Sp := fun vs H Q _ => exists (a : Addr) (ns : List Int), vs = [.ref a] ∧ SqL K H a (ns.map V.int) ∧ ns.length ≤ 63 ∧ forall H', Q (.bl true) H'
theorem all_mk {l : PySem.W.OpenLaw} {w : World} {K : Fg} {h : Heap} {mg : Str → Option Value} {fa : Addr} (X : K.In h) (G : h.Ns mainGlobals mg) (hfa : mg "law" = some (.ref fa))
    {f0 : Addr} {od0 an0 : Option Addr} {sl0 : Array (Option Value)} {oc0 kV0 dc0 pm0 cd0 ct0 : Value}
    (a0 : PySem.W.nsIn K mainGlobals "whole_to" = some (some (.ref f0))) (l0 : K.lookup f0 = some ⟨oc0, od0, .func (PySem.W.fnOf "whole_to" "whole_to" (defArgs s_whole_to) (defBody s_whole_to) (defScope s_whole_to) .none kV0 dc0 pm0 an0 cd0 ct0), sl0⟩) (c0 : PySem.W.codeIn K cd0 "whole_to" = true) (k0 : PySem.W.keepIn K (.ref f0) = true)
    {f1 : Addr} {od1 an1 : Option Addr} {sl1 : Array (Option Value)} {oc1 kV1 dc1 pm1 cd1 ct1 : Value}
    (a1 : PySem.W.nsIn K mainGlobals "is_stretch" = some (some (.ref f1))) (l1 : K.lookup f1 = some ⟨oc1, od1, .func (PySem.W.fnOf "is_stretch" "is_stretch" (defArgs s_is_stretch) (defBody s_is_stretch) (defScope s_is_stretch) .none kV1 dc1 pm1 an1 cd1 ct1), sl1⟩) (c1 : PySem.W.codeIn K cd1 "is_stretch" = true) (k1 : PySem.W.keepIn K (.ref f1) = true)
    {f2 : Addr} {od2 an2 : Option Addr} {sl2 : Array (Option Value)} {oc2 kV2 dc2 pm2 cd2 ct2 : Value}
    (a2 : PySem.W.nsIn K mainGlobals "need_set" = some (some (.ref f2))) (l2 : K.lookup f2 = some ⟨oc2, od2, .func (PySem.W.fnOf "need_set" "need_set" (defArgs s_need_set) (defBody s_need_set) (defScope s_need_set) .none kV2 dc2 pm2 an2 cd2 ct2), sl2⟩) (c2 : PySem.W.codeIn K cd2 "need_set" = true) (k2 : PySem.W.keepIn K (.ref f2) = true)
    {f3 : Addr} {od3 an3 : Option Addr} {sl3 : Array (Option Value)} {oc3 kV3 dc3 pm3 cd3 ct3 : Value}
    (a3 : PySem.W.nsIn K mainGlobals "merged" = some (some (.ref f3))) (l3 : K.lookup f3 = some ⟨oc3, od3, .func (PySem.W.fnOf "merged" "merged" (defArgs s_merged) (defBody s_merged) (defScope s_merged) .none kV3 dc3 pm3 an3 cd3 ct3), sl3⟩) (c3 : PySem.W.codeIn K cd3 "merged" = true) (k3 : PySem.W.keepIn K (.ref f3) = true)
    {f4 : Addr} {od4 an4 : Option Addr} {sl4 : Array (Option Value)} {oc4 kV4 dc4 pm4 cd4 ct4 : Value}
    (a4 : PySem.W.nsIn K mainGlobals "set_of" = some (some (.ref f4))) (l4 : K.lookup f4 = some ⟨oc4, od4, .func (PySem.W.fnOf "set_of" "set_of" (defArgs s_set_of) (defBody s_set_of) (defScope s_set_of) .none kV4 dc4 pm4 an4 cd4 ct4), sl4⟩) (c4 : PySem.W.codeIn K cd4 "set_of" = true) (k4 : PySem.W.keepIn K (.ref f4) = true)
    {f5 : Addr} {od5 an5 : Option Addr} {sl5 : Array (Option Value)} {oc5 kV5 dc5 pm5 cd5 ct5 : Value}
    (a5 : PySem.W.nsIn K mainGlobals "has" = some (some (.ref f5))) (l5 : K.lookup f5 = some ⟨oc5, od5, .func (PySem.W.fnOf "has" "has" (defArgs s_has) (defBody s_has) (defScope s_has) .none kV5 dc5 pm5 an5 cd5 ct5), sl5⟩) (c5 : PySem.W.codeIn K cd5 "has" = true) (k5 : PySem.W.keepIn K (.ref f5) = true)
    {f6 : Addr} {od6 an6 : Option Addr} {sl6 : Array (Option Value)} {oc6 kV6 dc6 pm6 cd6 ct6 : Value}
    (a6 : PySem.W.nsIn K mainGlobals "size" = some (some (.ref f6))) (l6 : K.lookup f6 = some ⟨oc6, od6, .func (PySem.W.fnOf "size" "size" (defArgs s_size) (defBody s_size) (defScope s_size) .none kV6 dc6 pm6 an6 cd6 ct6), sl6⟩) (c6 : PySem.W.codeIn K cd6 "size" = true) (k6 : PySem.W.keepIn K (.ref f6) = true)
    {f7 : Addr} {od7 an7 : Option Addr} {sl7 : Array (Option Value)} {oc7 kV7 dc7 pm7 cd7 ct7 : Value}
    (a7 : PySem.W.nsIn K mainGlobals "least" = some (some (.ref f7))) (l7 : K.lookup f7 = some ⟨oc7, od7, .func (PySem.W.fnOf "least" "least" (defArgs s_least) (defBody s_least) (defScope s_least) .none kV7 dc7 pm7 an7 cd7 ct7), sl7⟩) (c7 : PySem.W.codeIn K cd7 "least" = true) (k7 : PySem.W.keepIn K (.ref f7) = true)
    {f8 : Addr} {od8 an8 : Option Addr} {sl8 : Array (Option Value)} {oc8 kV8 dc8 pm8 cd8 ct8 : Value}
    (a8 : PySem.W.nsIn K mainGlobals "_law_mixed" = some (some (.ref f8))) (l8 : K.lookup f8 = some ⟨oc8, od8, .func (PySem.W.fnOf "_law_mixed" "_law_mixed" (defArgs s_law_mixed) (defBody s_law_mixed) (defScope s_law_mixed) .none kV8 dc8 pm8 an8 cd8 ct8), sl8⟩) (c8 : PySem.W.codeIn K cd8 "_law_mixed" = true) (k8 : PySem.W.keepIn K (.ref f8) = true)
    {f9 : Addr} {od9 an9 : Option Addr} {sl9 : Array (Option Value)} {oc9 kV9 dc9 pm9 cd9 ct9 : Value}
    (a9 : PySem.W.nsIn K mainGlobals "_law_great" = some (some (.ref f9))) (l9 : K.lookup f9 = some ⟨oc9, od9, .func (PySem.W.fnOf "_law_great" "_law_great" (defArgs s_law_great) (defBody s_law_great) (defScope s_law_great) .none kV9 dc9 pm9 an9 cd9 ct9), sl9⟩) (c9 : PySem.W.codeIn K cd9 "_law_great" = true) (k9 : PySem.W.keepIn K (.ref f9) = true)
    {f10 : Addr} {od10 an10 : Option Addr} {sl10 : Array (Option Value)} {oc10 kV10 dc10 pm10 cd10 ct10 : Value}
    (a10 : PySem.W.nsIn K mainGlobals "_law_alone" = some (some (.ref f10))) (l10 : K.lookup f10 = some ⟨oc10, od10, .func (PySem.W.fnOf "_law_alone" "_law_alone" (defArgs s_law_alone) (defBody s_law_alone) (defScope s_law_alone) .none kV10 dc10 pm10 an10 cd10 ct10), sl10⟩) (c10 : PySem.W.codeIn K cd10 "_law_alone" = true) (k10 : PySem.W.keepIn K (.ref f10) = true)
    {f11 : Addr} {od11 an11 : Option Addr} {sl11 : Array (Option Value)} {oc11 kV11 dc11 pm11 cd11 ct11 : Value}
    (a11 : PySem.W.nsIn K mainGlobals "_law_set" = some (some (.ref f11))) (l11 : K.lookup f11 = some ⟨oc11, od11, .func (PySem.W.fnOf "_law_set" "_law_set" (defArgs s_law_set) (defBody s_law_set) (defScope s_law_set) .none kV11 dc11 pm11 an11 cd11 ct11), sl11⟩) (c11 : PySem.W.codeIn K cd11 "_law_set" = true) (k11 : PySem.W.keepIn K (.ref f11) = true)
    {f12 : Addr} {od12 an12 : Option Addr} {sl12 : Array (Option Value)} {oc12 kV12 dc12 pm12 cd12 ct12 : Value}
    (a12 : PySem.W.nsIn K mainGlobals "_law_odd" = some (some (.ref f12))) (l12 : K.lookup f12 = some ⟨oc12, od12, .func (PySem.W.fnOf "_law_odd" "_law_odd" (defArgs s_law_odd) (defBody s_law_odd) (defScope s_law_odd) .none kV12 dc12 pm12 an12 cd12 ct12), sl12⟩) (c12 : PySem.W.codeIn K cd12 "_law_odd" = true) (k12 : PySem.W.keepIn K (.ref f12) = true)
    {f13 : Addr} {od13 an13 : Option Addr} {sl13 : Array (Option Value)} {oc13 kV13 dc13 pm13 cd13 ct13 : Value}
    (a13 : PySem.W.nsIn K mainGlobals "_law_no_sets" = some (some (.ref f13))) (l13 : K.lookup f13 = some ⟨oc13, od13, .func (PySem.W.fnOf "_law_no_sets" "_law_no_sets" (defArgs s_law_no_sets) (defBody s_law_no_sets) (defScope s_law_no_sets) .none kV13 dc13 pm13 an13 cd13 ct13), sl13⟩) (c13 : PySem.W.codeIn K cd13 "_law_no_sets" = true) (k13 : PySem.W.keepIn K (.ref f13) = true)
    {f14 : Addr} {od14 an14 : Option Addr} {sl14 : Array (Option Value)} {oc14 kV14 dc14 pm14 cd14 ct14 : Value}
    (a14 : PySem.W.nsIn K mainGlobals "_law_no_lists" = some (some (.ref f14))) (l14 : K.lookup f14 = some ⟨oc14, od14, .func (PySem.W.fnOf "_law_no_lists" "_law_no_lists" (defArgs s_law_no_lists) (defBody s_law_no_lists) (defScope s_law_no_lists) .none kV14 dc14 pm14 an14 cd14 ct14), sl14⟩) (c14 : PySem.W.codeIn K cd14 "_law_no_lists" = true) (k14 : PySem.W.keepIn K (.ref f14) = true)
    {f15 : Addr} {od15 an15 : Option Addr} {sl15 : Array (Option Value)} {oc15 kV15 dc15 pm15 cd15 ct15 : Value}
    (a15 : PySem.W.nsIn K mainGlobals "_law_told" = some (some (.ref f15))) (l15 : K.lookup f15 = some ⟨oc15, od15, .func (PySem.W.fnOf "_law_told" "_law_told" (defArgs s_law_told) (defBody s_law_told) (defScope s_law_told) .none kV15 dc15 pm15 an15 cd15 ct15), sl15⟩) (c15 : PySem.W.codeIn K cd15 "_law_told" = true) (k15 : PySem.W.keepIn K (.ref f15) = true)
    {f16 : Addr} {od16 an16 : Option Addr} {sl16 : Array (Option Value)} {oc16 kV16 dc16 pm16 cd16 ct16 : Value}
    (a16 : PySem.W.nsIn K mainGlobals "_law_asked" = some (some (.ref f16))) (l16 : K.lookup f16 = some ⟨oc16, od16, .func (PySem.W.fnOf "_law_asked" "_law_asked" (defArgs s_law_asked) (defBody s_law_asked) (defScope s_law_asked) .none kV16 dc16 pm16 an16 cd16 ct16), sl16⟩) (c16 : PySem.W.codeIn K cd16 "_law_asked" = true) (k16 : PySem.W.keepIn K (.ref f16) = true)
    {f17 : Addr} {od17 an17 : Option Addr} {sl17 : Array (Option Value)} {oc17 kV17 dc17 pm17 cd17 ct17 : Value}
    (a17 : PySem.W.nsIn K mainGlobals "law" = some (some (.ref f17))) (l17 : K.lookup f17 = some ⟨oc17, od17, .func (PySem.W.fnOf "law" "law" (defArgs s_law) (defBody s_law) (defScope s_law) .none kV17 dc17 pm17 an17 cd17 ct17), sl17⟩) (c17 : PySem.W.codeIn K cd17 "law" = true) (k17 : PySem.W.keepIn K (.ref f17) = true)
    (z_ValueError : PySem.W.nsIn K mainGlobals "ValueError" = some none)
    (z_any : PySem.W.nsIn K mainGlobals "any" = some none)
    (z_bool : PySem.W.nsIn K mainGlobals "bool" = some none)
    (z_enumerate : PySem.W.nsIn K mainGlobals "enumerate" = some none)
    (z_int : PySem.W.nsIn K mainGlobals "int" = some none)
    (z_isinstance : PySem.W.nsIn K mainGlobals "isinstance" = some none)
    (z_len : PySem.W.nsIn K mainGlobals "len" = some none)
    (z_list : PySem.W.nsIn K mainGlobals "list" = some none)
    (z_max : PySem.W.nsIn K mainGlobals "max" = some none)
    (z_min : PySem.W.nsIn K mainGlobals "min" = some none)
    (z_sorted : PySem.W.nsIn K mainGlobals "sorted" = some none)
    (z_sum : PySem.W.nsIn K mainGlobals "sum" = some none)
    (z_tuple : PySem.W.nsIn K mainGlobals "tuple" = some none)
    {C_BadAsking : Addr} (e_BadAsking : PySem.W.nsIn K mainGlobals "BadAsking" = some (some (.ref C_BadAsking)))
    {C_BadSet : Addr} (e_BadSet : PySem.W.nsIn K mainGlobals "BadSet" = some (some (.ref C_BadSet)))
    {C_BadText : Addr} (e_BadText : PySem.W.nsIn K mainGlobals "BadText" = some (some (.ref C_BadText)))
    {C_BadValue : Addr} (e_BadValue : PySem.W.nsIn K mainGlobals "BadValue" = some (some (.ref C_BadValue)))
    {C_BadWish : Addr} (e_BadWish : PySem.W.nsIn K mainGlobals "BadWish" = some (some (.ref C_BadWish)))
    {C_GateError : Addr} (e_GateError : PySem.W.nsIn K mainGlobals "GateError" = some (some (.ref C_GateError)))
    {C_InUse : Addr} (e_InUse : PySem.W.nsIn K mainGlobals "InUse" = some (some (.ref C_InUse)))
    {C_NoGate : Addr} (e_NoGate : PySem.W.nsIn K mainGlobals "NoGate" = some (some (.ref C_NoGate)))
    {C_NoName : Addr} (e_NoName : PySem.W.nsIn K mainGlobals "NoName" = some (some (.ref C_NoName)))
    {C_NoRule : Addr} (e_NoRule : PySem.W.nsIn K mainGlobals "NoRule" = some (some (.ref C_NoRule)))
    {C_NoVersion : Addr} (e_NoVersion : PySem.W.nsIn K mainGlobals "NoVersion" = some (some (.ref C_NoVersion)))
    {C_Ring : Addr} (e_Ring : PySem.W.nsIn K mainGlobals "Ring" = some (some (.ref C_Ring)))
    {C_TooMuch : Addr} (e_TooMuch : PySem.W.nsIn K mainGlobals "TooMuch" = some (some (.ref C_TooMuch)))
    (x_BadSet : PySem.W.excIn K C_BadSet [.type "ValueError", .type "Exception", .type "BaseException", .type "object"] "ValueError.__new__" = true) (k_BadSet : PySem.W.keepIn K (.ref C_BadSet) = true) (b_BadSet : PySem.W.subIn K (.ref C_BadSet) (.type "BaseException") = some true) (t_BadSet : PySem.W.typeIn K (.ref C_BadSet) = some (.type "type"))
    (hg_BadSet : PySem.W.findIn K (.ref C_BadSet) "__getattribute__" = some (some (.builtin "BaseException.__getattribute__"))) (hk_BadSet : PySem.W.findIn K (.ref C_BadSet) "__getattr__" = some none) (hd_BadSet : PySem.W.hasDictIn K C_BadSet = true) (ha_BadSet : PySem.W.findIn K (.ref C_BadSet) "__class__" = some (some (.builtin "object.__class__"))) (hm_BadSet : PySem.W.mroIn K C_BadSet (.type "object") = some true)
    (su_BadSet_BadAsking : PySem.W.subIn K (.ref C_BadSet) (.ref C_BadAsking) = some false)
    (ne_BadSet_BadAsking : (Value.ref C_BadSet == Value.ref C_BadAsking) = false)
    (su_BadSet_BadSet : PySem.W.subIn K (.ref C_BadSet) (.ref C_BadSet) = some true)
    (su_BadSet_BadText : PySem.W.subIn K (.ref C_BadSet) (.ref C_BadText) = some false)
    (ne_BadSet_BadText : (Value.ref C_BadSet == Value.ref C_BadText) = false)
    (su_BadSet_BadValue : PySem.W.subIn K (.ref C_BadSet) (.ref C_BadValue) = some false)
    (ne_BadSet_BadValue : (Value.ref C_BadSet == Value.ref C_BadValue) = false)
    (su_BadSet_BadWish : PySem.W.subIn K (.ref C_BadSet) (.ref C_BadWish) = some false)
    (ne_BadSet_BadWish : (Value.ref C_BadSet == Value.ref C_BadWish) = false)
    (su_BadSet_GateError : PySem.W.subIn K (.ref C_BadSet) (.ref C_GateError) = some true)
    (ne_BadSet_GateError : (Value.ref C_BadSet == Value.ref C_GateError) = false)
    (su_BadSet_InUse : PySem.W.subIn K (.ref C_BadSet) (.ref C_InUse) = some false)
    (ne_BadSet_InUse : (Value.ref C_BadSet == Value.ref C_InUse) = false)
    (su_BadSet_NoGate : PySem.W.subIn K (.ref C_BadSet) (.ref C_NoGate) = some false)
    (ne_BadSet_NoGate : (Value.ref C_BadSet == Value.ref C_NoGate) = false)
    (su_BadSet_NoName : PySem.W.subIn K (.ref C_BadSet) (.ref C_NoName) = some false)
    (ne_BadSet_NoName : (Value.ref C_BadSet == Value.ref C_NoName) = false)
    (su_BadSet_NoRule : PySem.W.subIn K (.ref C_BadSet) (.ref C_NoRule) = some false)
    (ne_BadSet_NoRule : (Value.ref C_BadSet == Value.ref C_NoRule) = false)
    (su_BadSet_NoVersion : PySem.W.subIn K (.ref C_BadSet) (.ref C_NoVersion) = some false)
    (ne_BadSet_NoVersion : (Value.ref C_BadSet == Value.ref C_NoVersion) = false)
    (su_BadSet_Ring : PySem.W.subIn K (.ref C_BadSet) (.ref C_Ring) = some false)
    (ne_BadSet_Ring : (Value.ref C_BadSet == Value.ref C_Ring) = false)
    (su_BadSet_TooMuch : PySem.W.subIn K (.ref C_BadSet) (.ref C_TooMuch) = some false)
    (ne_BadSet_TooMuch : (Value.ref C_BadSet == Value.ref C_TooMuch) = false)
    (su_BadSet_ValueError : PySem.W.subIn K (.ref C_BadSet) (.type "ValueError") = some true)
    (dq_BadAsking : PySem.W.hasDictIn K C_BadAsking = true) (tq_BadAsking : PySem.W.typeIn K (.ref C_BadAsking) = some (.type "type")) (bq_BadAsking : PySem.W.subIn K (.ref C_BadAsking) (.type "BaseException") = some true)
    (dq_BadSet : PySem.W.hasDictIn K C_BadSet = true) (tq_BadSet : PySem.W.typeIn K (.ref C_BadSet) = some (.type "type")) (bq_BadSet : PySem.W.subIn K (.ref C_BadSet) (.type "BaseException") = some true)
    (dq_BadText : PySem.W.hasDictIn K C_BadText = true) (tq_BadText : PySem.W.typeIn K (.ref C_BadText) = some (.type "type")) (bq_BadText : PySem.W.subIn K (.ref C_BadText) (.type "BaseException") = some true)
    (dq_BadValue : PySem.W.hasDictIn K C_BadValue = true) (tq_BadValue : PySem.W.typeIn K (.ref C_BadValue) = some (.type "type")) (bq_BadValue : PySem.W.subIn K (.ref C_BadValue) (.type "BaseException") = some true)
    (dq_BadWish : PySem.W.hasDictIn K C_BadWish = true) (tq_BadWish : PySem.W.typeIn K (.ref C_BadWish) = some (.type "type")) (bq_BadWish : PySem.W.subIn K (.ref C_BadWish) (.type "BaseException") = some true)
    (dq_GateError : PySem.W.hasDictIn K C_GateError = true) (tq_GateError : PySem.W.typeIn K (.ref C_GateError) = some (.type "type")) (bq_GateError : PySem.W.subIn K (.ref C_GateError) (.type "BaseException") = some true)
    (dq_InUse : PySem.W.hasDictIn K C_InUse = true) (tq_InUse : PySem.W.typeIn K (.ref C_InUse) = some (.type "type")) (bq_InUse : PySem.W.subIn K (.ref C_InUse) (.type "BaseException") = some true)
    (dq_NoGate : PySem.W.hasDictIn K C_NoGate = true) (tq_NoGate : PySem.W.typeIn K (.ref C_NoGate) = some (.type "type")) (bq_NoGate : PySem.W.subIn K (.ref C_NoGate) (.type "BaseException") = some true)
    (dq_NoName : PySem.W.hasDictIn K C_NoName = true) (tq_NoName : PySem.W.typeIn K (.ref C_NoName) = some (.type "type")) (bq_NoName : PySem.W.subIn K (.ref C_NoName) (.type "BaseException") = some true)
    (dq_NoRule : PySem.W.hasDictIn K C_NoRule = true) (tq_NoRule : PySem.W.typeIn K (.ref C_NoRule) = some (.type "type")) (bq_NoRule : PySem.W.subIn K (.ref C_NoRule) (.type "BaseException") = some true)
    (dq_NoVersion : PySem.W.hasDictIn K C_NoVersion = true) (tq_NoVersion : PySem.W.typeIn K (.ref C_NoVersion) = some (.type "type")) (bq_NoVersion : PySem.W.subIn K (.ref C_NoVersion) (.type "BaseException") = some true)
    (dq_Ring : PySem.W.hasDictIn K C_Ring = true) (tq_Ring : PySem.W.typeIn K (.ref C_Ring) = some (.type "type")) (bq_Ring : PySem.W.subIn K (.ref C_Ring) (.type "BaseException") = some true)
    (dq_TooMuch : PySem.W.hasDictIn K C_TooMuch = true) (tq_TooMuch : PySem.W.typeIn K (.ref C_TooMuch) = some (.type "type")) (bq_TooMuch : PySem.W.subIn K (.ref C_TooMuch) (.type "BaseException") = some true)
    (hn_ : PySem.W.specialIn K (.builtin "object.__class__") "__get__" = some (some (.builtin "getset_descriptor.__get__"))) (ht_ : PySem.W.takesIn K (.builtin "object.__class__") = some true)
    : exists fd : FuncData, (forall (s : Shared) (v : Value), BindsTo s fd ⟨[v], []⟩ [("_law_script", v)]) ∧ forall base : Heap, K.In base → base.Ns mainGlobals mg → FnOk l.prog w K mg base CX0 5 fa fd ["_law_script"] (spLaw K) := by
  have e := hfa.symm.trans (PySem.W.mg_of X G a17)
  cases e
  have F0 := fun_mk (st := s_whole_to) l0 c0 k0
  have F1 := fun_mk (st := s_is_stretch) l1 c1 k1
  have F2 := fun_mk (st := s_need_set) l2 c2 k2
  have F3 := fun_mk (st := s_merged) l3 c3 k3
  have F4 := fun_mk (st := s_set_of) l4 c4 k4
  have F5 := fun_mk (st := s_has) l5 c5 k5
  have F6 := fun_mk (st := s_size) l6 c6 k6
  have F7 := fun_mk (st := s_least) l7 c7 k7
  have F8 := fun_mk (st := s_law_mixed) l8 c8 k8
  have F9 := fun_mk (st := s_law_great) l9 c9 k9
  have F10 := fun_mk (st := s_law_alone) l10 c10 k10
  have F11 := fun_mk (st := s_law_set) l11 c11 k11
  have F12 := fun_mk (st := s_law_odd) l12 c12 k12
  have F13 := fun_mk (st := s_law_no_sets) l13 c13 k13
  have F14 := fun_mk (st := s_law_no_lists) l14 c14 k14
  have F15 := fun_mk (st := s_law_told) l15 c15 k15
  have F16 := fun_mk (st := s_law_asked) l16 c16 k16
  have F17 := fun_mk (st := s_law) l17 c17 k17
  have b0 := F0.binds (ps := ["most", "thing"]) fun _ _ _ _ _ _ us hl => match us, hl with | [_, _], _ => rfl
  have b1 := F1.binds (ps := ["most", "thing"]) fun _ _ _ _ _ _ us hl => match us, hl with | [_, _], _ => rfl
  have b2 := F2.binds (ps := ["most", "thing"]) fun _ _ _ _ _ _ us hl => match us, hl with | [_, _], _ => rfl
  have b3 := F3.binds (ps := ["rising"]) fun _ _ _ _ _ _ us hl => match us, hl with | [_], _ => rfl
  have b4 := F4.binds (ps := ["most", "pairs"]) fun _ _ _ _ _ _ us hl => match us, hl with | [_, _], _ => rfl
  have b5 := F5.binds (ps := ["one", "number"]) fun _ _ _ _ _ _ us hl => match us, hl with | [_, _], _ => rfl
  have b6 := F6.binds (ps := ["one"]) fun _ _ _ _ _ _ us hl => match us, hl with | [_], _ => rfl
  have b7 := F7.binds (ps := ["one"]) fun _ _ _ _ _ _ us hl => match us, hl with | [_], _ => rfl
  have b8 := F8.binds (ps := ["_law_cell", "_law_k"]) fun _ _ _ _ _ _ us hl => match us, hl with | [_, _], _ => rfl
  have b9 := F9.binds (ps := ["_law_cell", "_law_k"]) fun _ _ _ _ _ _ us hl => match us, hl with | [_, _], _ => rfl
  have b10 := F10.binds (ps := ["_law_e", "_law_at"]) fun _ _ _ _ _ _ us hl => match us, hl with | [_, _], _ => rfl
  have b11 := F11.binds (ps := ["_law_script"]) fun _ _ _ _ _ _ us hl => match us, hl with | [_], _ => rfl
  have b12 := F12.binds (ps := ["_law_low", "_law_high", "_law_most"]) fun _ _ _ _ _ _ us hl => match us, hl with | [_, _, _], _ => rfl
  have b13 := F13.binds (ps := ["_law_some", "_law_most", "_law_at"]) fun _ _ _ _ _ _ us hl => match us, hl with | [_, _, _], _ => rfl
  have b14 := F14.binds (ps := ["_law_some", "_law_most", "_law_at"]) fun _ _ _ _ _ _ us hl => match us, hl with | [_, _, _], _ => rfl
  have b15 := F15.binds (ps := ["_law_deed", "_law_most", "_law_thing"]) fun _ _ _ _ _ _ us hl => match us, hl with | [_, _, _], _ => rfl
  have b16 := F16.binds (ps := ["_law_some", "_law_most"]) fun _ _ _ _ _ _ us hl => match us, hl with | [_, _], _ => rfl
  have b17 := F17.binds (ps := ["_law_script"]) fun _ _ _ _ _ _ us hl => match us, hl with | [_], _ => rfl
  let T : Txt K mg := { a_whole_to := f0, d_whole_to := _, F_whole_to := F0, b_whole_to := b0, g_whole_to := PySem.W.mg_of X G a0, a_is_stretch := f1, d_is_stretch := _, F_is_stretch := F1, b_is_stretch := b1, g_is_stretch := PySem.W.mg_of X G a1, a_need_set := f2, d_need_set := _, F_need_set := F2, b_need_set := b2, g_need_set := PySem.W.mg_of X G a2, a_merged := f3, d_merged := _, F_merged := F3, b_merged := b3, g_merged := PySem.W.mg_of X G a3, a_set_of := f4, d_set_of := _, F_set_of := F4, b_set_of := b4, g_set_of := PySem.W.mg_of X G a4, a_has := f5, d_has := _, F_has := F5, b_has := b5, g_has := PySem.W.mg_of X G a5, a_size := f6, d_size := _, F_size := F6, b_size := b6, g_size := PySem.W.mg_of X G a6, a_least := f7, d_least := _, F_least := F7, b_least := b7, g_least := PySem.W.mg_of X G a7, a_law_mixed := f8, d_law_mixed := _, F_law_mixed := F8, b_law_mixed := b8, g_law_mixed := PySem.W.mg_of X G a8, a_law_great := f9, d_law_great := _, F_law_great := F9, b_law_great := b9, g_law_great := PySem.W.mg_of X G a9, a_law_alone := f10, d_law_alone := _, F_law_alone := F10, b_law_alone := b10, g_law_alone := PySem.W.mg_of X G a10, a_law_set := f11, d_law_set := _, F_law_set := F11, b_law_set := b11, g_law_set := PySem.W.mg_of X G a11, a_law_odd := f12, d_law_odd := _, F_law_odd := F12, b_law_odd := b12, g_law_odd := PySem.W.mg_of X G a12, a_law_no_sets := f13, d_law_no_sets := _, F_law_no_sets := F13, b_law_no_sets := b13, g_law_no_sets := PySem.W.mg_of X G a13, a_law_no_lists := f14, d_law_no_lists := _, F_law_no_lists := F14, b_law_no_lists := b14, g_law_no_lists := PySem.W.mg_of X G a14, a_law_told := f15, d_law_told := _, F_law_told := F15, b_law_told := b15, g_law_told := PySem.W.mg_of X G a15, a_law_asked := f16, d_law_asked := _, F_law_asked := F16, b_law_asked := b16, g_law_asked := PySem.W.mg_of X G a16, a_law := fa, d_law := _, F_law := F17, b_law := b17, g_law := PySem.W.mg_of X G a17, n_ValueError := PySem.W.mg_none_of X G z_ValueError, n_any := PySem.W.mg_none_of X G z_any, n_bool := PySem.W.mg_none_of X G z_bool, n_enumerate := PySem.W.mg_none_of X G z_enumerate, n_int := PySem.W.mg_none_of X G z_int, n_isinstance := PySem.W.mg_none_of X G z_isinstance, n_len := PySem.W.mg_none_of X G z_len, n_list := PySem.W.mg_none_of X G z_list, n_max := PySem.W.mg_none_of X G z_max, n_min := PySem.W.mg_none_of X G z_min, n_sorted := PySem.W.mg_none_of X G z_sorted, n_sum := PySem.W.mg_none_of X G z_sum, n_tuple := PySem.W.mg_none_of X G z_tuple, c_BadAsking := C_BadAsking, g_BadAsking := PySem.W.mg_of X G e_BadAsking, i_BadAsking := e_BadAsking, c_BadSet := C_BadSet, g_BadSet := PySem.W.mg_of X G e_BadSet, i_BadSet := e_BadSet, c_BadText := C_BadText, g_BadText := PySem.W.mg_of X G e_BadText, i_BadText := e_BadText, c_BadValue := C_BadValue, g_BadValue := PySem.W.mg_of X G e_BadValue, i_BadValue := e_BadValue, c_BadWish := C_BadWish, g_BadWish := PySem.W.mg_of X G e_BadWish, i_BadWish := e_BadWish, c_GateError := C_GateError, g_GateError := PySem.W.mg_of X G e_GateError, i_GateError := e_GateError, c_InUse := C_InUse, g_InUse := PySem.W.mg_of X G e_InUse, i_InUse := e_InUse, c_NoGate := C_NoGate, g_NoGate := PySem.W.mg_of X G e_NoGate, i_NoGate := e_NoGate, c_NoName := C_NoName, g_NoName := PySem.W.mg_of X G e_NoName, i_NoName := e_NoName, c_NoRule := C_NoRule, g_NoRule := PySem.W.mg_of X G e_NoRule, i_NoRule := e_NoRule, c_NoVersion := C_NoVersion, g_NoVersion := PySem.W.mg_of X G e_NoVersion, i_NoVersion := e_NoVersion, c_Ring := C_Ring, g_Ring := PySem.W.mg_of X G e_Ring, i_Ring := e_Ring, c_TooMuch := C_TooMuch, g_TooMuch := PySem.W.mg_of X G e_TooMuch, i_TooMuch := e_TooMuch, x_BadSet := x_BadSet, k_BadSet := k_BadSet, b_BadSet := b_BadSet, t_BadSet := t_BadSet, xm_GateError := fun c hc C iC => (by obtain rfl := List.mem_singleton.mp hc; cases isC.uniq e_BadSet iC; exact PySem.W.exm_ref bq_GateError dq_GateError tq_GateError su_BadSet_GateError), ki_BadAsking := fun c hc C iC => (by obtain rfl := List.mem_singleton.mp hc; cases isC.uniq e_BadSet iC; exact ⟨⟨hg_BadSet, hk_BadSet, b_BadSet, hd_BadSet, ha_BadSet, hn_, ht_, hm_BadSet⟩, kit_own ne_BadSet_BadAsking dq_BadAsking tq_BadAsking su_BadSet_BadAsking⟩), ki_BadSet := fun c hc C iC => (by obtain rfl := List.mem_singleton.mp hc; cases isC.uniq e_BadSet iC; exact ⟨⟨hg_BadSet, hk_BadSet, b_BadSet, hd_BadSet, ha_BadSet, hn_, ht_, hm_BadSet⟩, kit_self⟩), ki_BadText := fun c hc C iC => (by obtain rfl := List.mem_singleton.mp hc; cases isC.uniq e_BadSet iC; exact ⟨⟨hg_BadSet, hk_BadSet, b_BadSet, hd_BadSet, ha_BadSet, hn_, ht_, hm_BadSet⟩, kit_own ne_BadSet_BadText dq_BadText tq_BadText su_BadSet_BadText⟩), ki_BadValue := fun c hc C iC => (by obtain rfl := List.mem_singleton.mp hc; cases isC.uniq e_BadSet iC; exact ⟨⟨hg_BadSet, hk_BadSet, b_BadSet, hd_BadSet, ha_BadSet, hn_, ht_, hm_BadSet⟩, kit_own ne_BadSet_BadValue dq_BadValue tq_BadValue su_BadSet_BadValue⟩), ki_BadWish := fun c hc C iC => (by obtain rfl := List.mem_singleton.mp hc; cases isC.uniq e_BadSet iC; exact ⟨⟨hg_BadSet, hk_BadSet, b_BadSet, hd_BadSet, ha_BadSet, hn_, ht_, hm_BadSet⟩, kit_own ne_BadSet_BadWish dq_BadWish tq_BadWish su_BadSet_BadWish⟩), ki_GateError := fun c hc C iC => (by obtain rfl := List.mem_singleton.mp hc; cases isC.uniq e_BadSet iC; exact ⟨⟨hg_BadSet, hk_BadSet, b_BadSet, hd_BadSet, ha_BadSet, hn_, ht_, hm_BadSet⟩, kit_own ne_BadSet_GateError dq_GateError tq_GateError su_BadSet_GateError⟩), ki_InUse := fun c hc C iC => (by obtain rfl := List.mem_singleton.mp hc; cases isC.uniq e_BadSet iC; exact ⟨⟨hg_BadSet, hk_BadSet, b_BadSet, hd_BadSet, ha_BadSet, hn_, ht_, hm_BadSet⟩, kit_own ne_BadSet_InUse dq_InUse tq_InUse su_BadSet_InUse⟩), ki_NoGate := fun c hc C iC => (by obtain rfl := List.mem_singleton.mp hc; cases isC.uniq e_BadSet iC; exact ⟨⟨hg_BadSet, hk_BadSet, b_BadSet, hd_BadSet, ha_BadSet, hn_, ht_, hm_BadSet⟩, kit_own ne_BadSet_NoGate dq_NoGate tq_NoGate su_BadSet_NoGate⟩), ki_NoName := fun c hc C iC => (by obtain rfl := List.mem_singleton.mp hc; cases isC.uniq e_BadSet iC; exact ⟨⟨hg_BadSet, hk_BadSet, b_BadSet, hd_BadSet, ha_BadSet, hn_, ht_, hm_BadSet⟩, kit_own ne_BadSet_NoName dq_NoName tq_NoName su_BadSet_NoName⟩), ki_NoRule := fun c hc C iC => (by obtain rfl := List.mem_singleton.mp hc; cases isC.uniq e_BadSet iC; exact ⟨⟨hg_BadSet, hk_BadSet, b_BadSet, hd_BadSet, ha_BadSet, hn_, ht_, hm_BadSet⟩, kit_own ne_BadSet_NoRule dq_NoRule tq_NoRule su_BadSet_NoRule⟩), ki_NoVersion := fun c hc C iC => (by obtain rfl := List.mem_singleton.mp hc; cases isC.uniq e_BadSet iC; exact ⟨⟨hg_BadSet, hk_BadSet, b_BadSet, hd_BadSet, ha_BadSet, hn_, ht_, hm_BadSet⟩, kit_own ne_BadSet_NoVersion dq_NoVersion tq_NoVersion su_BadSet_NoVersion⟩), ki_Ring := fun c hc C iC => (by obtain rfl := List.mem_singleton.mp hc; cases isC.uniq e_BadSet iC; exact ⟨⟨hg_BadSet, hk_BadSet, b_BadSet, hd_BadSet, ha_BadSet, hn_, ht_, hm_BadSet⟩, kit_own ne_BadSet_Ring dq_Ring tq_Ring su_BadSet_Ring⟩), ki_TooMuch := fun c hc C iC => (by obtain rfl := List.mem_singleton.mp hc; cases isC.uniq e_BadSet iC; exact ⟨⟨hg_BadSet, hk_BadSet, b_BadSet, hd_BadSet, ha_BadSet, hn_, ht_, hm_BadSet⟩, kit_own ne_BadSet_TooMuch dq_TooMuch tq_TooMuch su_BadSet_TooMuch⟩), ki_ValueError := fun c hc C iC => (by obtain rfl := List.mem_singleton.mp hc; cases isC.uniq e_BadSet iC; exact ⟨⟨hg_BadSet, hk_BadSet, b_BadSet, hd_BadSet, ha_BadSet, hn_, ht_, hm_BadSet⟩, kit_bi (by decide +kernel) su_BadSet_ValueError⟩) }
  refine ⟨_, fun s v => .of_eq rfl, fun base _ _ => (ok_law T).imp fun vs H Q E h => ?_⟩
  obtain ⟨a, ns, rfl, hs, hl, q⟩ := h
  refine ⟨true, ⟨.ref a, ⟨ns⟩, rfl, ⟨a, rfl, hs⟩, m_law_true ns hl⟩, fun w H2 _ r => ?_⟩
  rw [show w = .bl true from r]
  exact q H2
end Law
open PySem PySem.W PyProof.Rows
set_option maxRecDepth 100000
set_option maxHeartbeats 0 in
theorem PySem.Challenge.cw_gatewright_k01_sets_asked_holds : PySem.Challenge.rw_gatewright_k01_sets_asked.Holds := by
  w_on; o_law; k_head; (case hw => w_witness2)
  k_fill
  refine L2.walk_of (l := PySem.Challenge.rw_gatewright_k01_sets_asked) (n := 63) (k := 5) (x := "_law_script") (CX := fun _ => L2.CX0) (sp := fun w => Law.spLaw _) rfl (by decide) rfl ⟨rfl, by decide, by decide⟩ (fun w h Y => PySem.W.kIn_of Y) ?F (fun _ _ a ns hl _ hS => ⟨a, ns, rfl, hS, hl, fun _ => rfl⟩) (fun _ _ _ _ _ h => h)
  case F =>
    intro w mg fa h KX G hmg
    refine' Law.all_mk KX G hmg ?a0 ?l0 ?c0 ?k0 ?a1 ?l1 ?c1 ?k1 ?a2 ?l2 ?c2 ?k2 ?a3 ?l3 ?c3 ?k3 ?a4 ?l4 ?c4 ?k4 ?a5 ?l5 ?c5 ?k5 ?a6 ?l6 ?c6 ?k6 ?a7 ?l7 ?c7 ?k7 ?a8 ?l8 ?c8 ?k8 ?a9 ?l9 ?c9 ?k9 ?a10 ?l10 ?c10 ?k10 ?a11 ?l11 ?c11 ?k11 ?a12 ?l12 ?c12 ?k12 ?a13 ?l13 ?c13 ?k13 ?a14 ?l14 ?c14 ?k14 ?a15 ?l15 ?c15 ?k15 ?a16 ?l16 ?c16 ?k16 ?a17 ?l17 ?c17 ?k17 ?z_ValueError ?z_any ?z_bool ?z_enumerate ?z_int ?z_isinstance ?z_len ?z_list ?z_max ?z_min ?z_sorted ?z_sum ?z_tuple ?e_BadAsking ?e_BadSet ?e_BadText ?e_BadValue ?e_BadWish ?e_GateError ?e_InUse ?e_NoGate ?e_NoName ?e_NoRule ?e_NoVersion ?e_Ring ?e_TooMuch ?x_BadSet ?k_BadSet ?b_BadSet ?t_BadSet ?hg_BadSet ?hk_BadSet ?hd_BadSet ?ha_BadSet ?hm_BadSet ?su_BadSet_BadAsking ?ne_BadSet_BadAsking ?su_BadSet_BadSet ?su_BadSet_BadText ?ne_BadSet_BadText ?su_BadSet_BadValue ?ne_BadSet_BadValue ?su_BadSet_BadWish ?ne_BadSet_BadWish ?su_BadSet_GateError ?ne_BadSet_GateError ?su_BadSet_InUse ?ne_BadSet_InUse ?su_BadSet_NoGate ?ne_BadSet_NoGate ?su_BadSet_NoName ?ne_BadSet_NoName ?su_BadSet_NoRule ?ne_BadSet_NoRule ?su_BadSet_NoVersion ?ne_BadSet_NoVersion ?su_BadSet_Ring ?ne_BadSet_Ring ?su_BadSet_TooMuch ?ne_BadSet_TooMuch ?su_BadSet_ValueError ?dq_BadAsking ?tq_BadAsking ?bq_BadAsking ?dq_BadSet ?tq_BadSet ?bq_BadSet ?dq_BadText ?tq_BadText ?bq_BadText ?dq_BadValue ?tq_BadValue ?bq_BadValue ?dq_BadWish ?tq_BadWish ?bq_BadWish ?dq_GateError ?tq_GateError ?bq_GateError ?dq_InUse ?tq_InUse ?bq_InUse ?dq_NoGate ?tq_NoGate ?bq_NoGate ?dq_NoName ?tq_NoName ?bq_NoName ?dq_NoRule ?tq_NoRule ?bq_NoRule ?dq_NoVersion ?tq_NoVersion ?bq_NoVersion ?dq_Ring ?tq_Ring ?bq_Ring ?dq_TooMuch ?tq_TooMuch ?bq_TooMuch ?hn_ ?ht_
    (case a0 => k_is); (case l0 => k_is); (case c0 => k_is); (case k0 => k_is); (case a1 => k_is); (case l1 => k_is); (case c1 => k_is); (case k1 => k_is); (case a2 => k_is); (case l2 => k_is); (case c2 => k_is); (case k2 => k_is); (case a3 => k_is); (case l3 => k_is); (case c3 => k_is); (case k3 => k_is); (case a4 => k_is); (case l4 => k_is); (case c4 => k_is); (case k4 => k_is); (case a5 => k_is); (case l5 => k_is); (case c5 => k_is); (case k5 => k_is); (case a6 => k_is); (case l6 => k_is); (case c6 => k_is); (case k6 => k_is); (case a7 => k_is); (case l7 => k_is); (case c7 => k_is); (case k7 => k_is); (case a8 => k_is); (case l8 => k_is); (case c8 => k_is); (case k8 => k_is); (case a9 => k_is); (case l9 => k_is); (case c9 => k_is); (case k9 => k_is); (case a10 => k_is); (case l10 => k_is); (case c10 => k_is); (case k10 => k_is); (case a11 => k_is); (case l11 => k_is); (case c11 => k_is); (case k11 => k_is); (case a12 => k_is); (case l12 => k_is); (case c12 => k_is); (case k12 => k_is); (case a13 => k_is); (case l13 => k_is); (case c13 => k_is); (case k13 => k_is); (case a14 => k_is); (case l14 => k_is); (case c14 => k_is); (case k14 => k_is); (case a15 => k_is); (case l15 => k_is); (case c15 => k_is); (case k15 => k_is); (case a16 => k_is); (case l16 => k_is); (case c16 => k_is); (case k16 => k_is); (case a17 => k_is); (case l17 => k_is); (case c17 => k_is); (case k17 => k_is); (case z_ValueError => k_is); (case z_any => k_is); (case z_bool => k_is); (case z_enumerate => k_is); (case z_int => k_is); (case z_isinstance => k_is); (case z_len => k_is); (case z_list => k_is); (case z_max => k_is); (case z_min => k_is); (case z_sorted => k_is); (case z_sum => k_is); (case z_tuple => k_is); (case e_BadAsking => k_is); (case e_BadSet => k_is); (case e_BadText => k_is); (case e_BadValue => k_is); (case e_BadWish => k_is); (case e_GateError => k_is); (case e_InUse => k_is); (case e_NoGate => k_is); (case e_NoName => k_is); (case e_NoRule => k_is); (case e_NoVersion => k_is); (case e_Ring => k_is); (case e_TooMuch => k_is); (case x_BadSet => k_exc); (case k_BadSet => k_is); (case b_BadSet => k_is); (case t_BadSet => k_is); (case hg_BadSet => k_is); (case hk_BadSet => k_is); (case hd_BadSet => k_is); (case ha_BadSet => k_is); (case hm_BadSet => k_is); (case su_BadSet_BadAsking => k_is); (case ne_BadSet_BadAsking => rfl); (case su_BadSet_BadSet => k_is); (case su_BadSet_BadText => k_is); (case ne_BadSet_BadText => rfl); (case su_BadSet_BadValue => k_is); (case ne_BadSet_BadValue => rfl); (case su_BadSet_BadWish => k_is); (case ne_BadSet_BadWish => rfl); (case su_BadSet_GateError => k_is); (case ne_BadSet_GateError => rfl); (case su_BadSet_InUse => k_is); (case ne_BadSet_InUse => rfl); (case su_BadSet_NoGate => k_is); (case ne_BadSet_NoGate => rfl); (case su_BadSet_NoName => k_is); (case ne_BadSet_NoName => rfl); (case su_BadSet_NoRule => k_is); (case ne_BadSet_NoRule => rfl); (case su_BadSet_NoVersion => k_is); (case ne_BadSet_NoVersion => rfl); (case su_BadSet_Ring => k_is); (case ne_BadSet_Ring => rfl); (case su_BadSet_TooMuch => k_is); (case ne_BadSet_TooMuch => rfl); (case su_BadSet_ValueError => k_is); (case dq_BadAsking => k_is); (case tq_BadAsking => k_is); (case bq_BadAsking => k_is); (case dq_BadSet => k_is); (case tq_BadSet => k_is); (case bq_BadSet => k_is); (case dq_BadText => k_is); (case tq_BadText => k_is); (case bq_BadText => k_is); (case dq_BadValue => k_is); (case tq_BadValue => k_is); (case bq_BadValue => k_is); (case dq_BadWish => k_is); (case tq_BadWish => k_is); (case bq_BadWish => k_is); (case dq_GateError => k_is); (case tq_GateError => k_is); (case bq_GateError => k_is); (case dq_InUse => k_is); (case tq_InUse => k_is); (case bq_InUse => k_is); (case dq_NoGate => k_is); (case tq_NoGate => k_is); (case bq_NoGate => k_is); (case dq_NoName => k_is); (case tq_NoName => k_is); (case bq_NoName => k_is); (case dq_NoRule => k_is); (case tq_NoRule => k_is); (case bq_NoRule => k_is); (case dq_NoVersion => k_is); (case tq_NoVersion => k_is); (case bq_NoVersion => k_is); (case dq_Ring => k_is); (case tq_Ring => k_is); (case bq_Ring => k_is); (case dq_TooMuch => k_is); (case tq_TooMuch => k_is); (case bq_TooMuch => k_is); (case hn_ => k_is); (case ht_ => k_is)

